package codes

import (
	"wring/api"
	"wring/bits"
)

// simpleMost is how many symbols the simple form names at most.
const simpleMost = 4

// Sender is a code as it is written: it has the bits of each symbol.
type Sender struct {
	size    int             // how many symbols the code is of
	width   int             // how many bits a symbol's number has
	count   int             // how many symbols the simple form names; 0: the code has the full form
	names   [simpleMost]int // these symbols, in their order
	lengths [api.Letters]int
	rows    [api.Letters]int // each symbol's bits, the first one lowest
}

// ForLetters answers a letter code by which symbols that come so often take few bits: at most MaxBlock of them in all.
func ForLetters(counts [api.Letters]int) Sender {
	return cheaper(counts[:], lettersWidth)
}

// ForDistances answers the same for distances.
func ForDistances(counts [api.Far]int) Sender {
	return cheaper(counts[:], distancesWidth)
}

// cheaper answers the code of that form by which it takes fewer bits to tell the code and all the symbols.
func cheaper(counts []int, width int) Sender {
	used := 0
	for i := 0; i < len(counts); i++ {
		if counts[i] > 0 {
			used++
		}
	}
	// One symbol alone has no lengths that make a full sum, and of two the simple form is always the shorter one.
	if used <= 2 {
		return simple(counts, width)
	}
	long := full(counts, width)
	if used > simpleMost {
		return long
	}
	short := simple(counts, width)
	least := short.cost(counts)
	if least <= long.cost(counts) {
		return short
	}
	return long
}

// simple answers a code of the simple form. If no symbol comes it names the first one, since it has to name one.
func simple(counts []int, width int) Sender {
	s := Sender{size: len(counts), width: width}
	for i := 0; i < len(counts) && s.count < simpleMost; i++ {
		if counts[i] > 0 {
			s.names[s.count] = i
			s.count++
		}
	}
	if s.count == 0 {
		s.count = 1
	}
	for i := 0; i < s.count && i < simpleMost; i++ {
		symbol := s.names[i]
		if symbol < len(s.lengths) {
			s.lengths[symbol] = simpleLength(s.count, i)
		}
	}
	s.assign()
	return s
}

// simpleLength tells the length of a symbol of the simple form of n symbols, by its place among them.
func simpleLength(n int, place int) int {
	switch n {
	case 1:
		return 0
	case 2:
		return 1
	case 3:
		if place == 0 {
			return 1
		}
	}
	return 2
}

func full(counts []int, width int) Sender {
	s := Sender{size: len(counts), width: width, lengths: lengthsFor(counts)}
	s.assign()
	return s
}

// assign gives the symbols their bits, in the order of their lengths and numbers.
func (s *Sender) assign() {
	next := 0
	for n := 1; n <= api.MaxLength; n++ {
		next = 2 * next
		for i := 0; i < s.size && i < len(s.lengths); i++ {
			if s.lengths[i] == n {
				s.rows[i] = reversed(next, n)
				next++
			}
		}
	}
}

// reversed turns n bits around: the highest one, which comes first, is the lowest in what it answers.
func reversed(v int, n int) int {
	turned := 0
	for i := 0; i < n; i++ {
		turned = 2*turned + v>>uint(i)&1
	}
	return turned
}

// cost tells how many bits it takes to tell the code, and symbols that come so often.
func (s *Sender) cost(counts []int) int {
	row := bits.Row{}
	s.Tell(&row)
	sum := row.Size()
	for i := 0; i < len(counts) && i < len(s.lengths); i++ {
		sum = sum + counts[i]*s.lengths[i]
	}
	return sum
}

// Put writes a symbol.
func (s *Sender) Put(row *bits.Row, symbol int) {
	if symbol >= 0 && symbol < len(s.lengths) {
		row.Number(s.rows[symbol], s.lengths[symbol])
	}
}

// Tell writes the code itself.
func (s *Sender) Tell(row *bits.Row) {
	if s.count > 0 {
		s.tellSimple(row)
		return
	}
	row.Number(1, 1)
	at := 0
	for at < s.size {
		at = at + s.tellSome(row, at)
	}
}

func (s *Sender) tellSimple(row *bits.Row) {
	row.Number(0, 1)
	row.Number(s.count-1, 2)
	for i := 0; i < s.count && i < simpleMost; i++ {
		row.Number(s.names[i], s.width)
	}
}

// tellSome writes one number of the full form, with what follows it, and answers how many lengths it tells: at least one.
func (s *Sender) tellSome(row *bits.Row, at int) int {
	length := s.lengthAt(at)
	same := s.same(at)
	switch {
	case length == 0 && same >= manyLeast:
		return tellRepeat(row, manyZeros, same, manyLeast)
	case length == 0 && same >= fewLeast:
		return tellRepeat(row, fewZeros, same, fewLeast)
	case at > 0 && length == s.lengthAt(at-1) && same >= againLeast:
		return tellRepeat(row, again, same, againLeast)
	}
	row.Number(length, 4)
	return 1
}

// tellRepeat writes a repeat of so many lengths, or as many of them as it can tell, and answers how many these are.
func tellRepeat(row *bits.Row, kind int, same int, least int) int {
	width := timesWidth(kind)
	more := same - least
	if more >= 1<<uint(width) {
		more = 1<<uint(width) - 1
	}
	row.Number(kind, 4)
	row.Number(more, width)
	return least + more
}

func (s *Sender) lengthAt(symbol int) int {
	if symbol < 0 || symbol >= len(s.lengths) {
		return 0
	}
	return s.lengths[symbol]
}

// same tells how many symbols from this one on have its length.
func (s *Sender) same(at int) int {
	length := s.lengthAt(at)
	end := at
	for end < s.size && s.lengthAt(end) == length {
		end++
	}
	return end - at
}
