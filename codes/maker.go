package codes

import "wring/api"

// What a number has done to the code that is being made.
const (
	More = iota // it wants another number
	Done
	Wrong
)

// The numbers that a code consists of.
const (
	stepForm = iota
	stepCount
	stepSymbol
	stepLength
	stepTimes
)

// The numbers of the full form that are no lengths.
const (
	again     = 13
	fewZeros  = 14
	manyZeros = 15
)

// How many lengths these tell at least.
const (
	againLeast = 3
	fewLeast   = 3
	manyLeast  = 11
)

// How many bits a symbol's number has.
const (
	lettersWidth   = 9
	distancesWidth = 4
)

// Maker makes a code out of the numbers that tell it, one by one.
type Maker struct {
	size    int // how many symbols the code is of
	width   int // how many bits a symbol's number has
	step    int
	wanted  int // simple form: how many symbols it names
	at      int // how many symbols are named, or lengths known
	repeat  int
	lengths [api.Letters]int
	code    Code
}

// Letters begins the letter code.
func (m *Maker) Letters() { m.begin(api.Letters, lettersWidth) }

// Distances begins the distance code.
func (m *Maker) Distances() { m.begin(api.Far, distancesWidth) }

func (m *Maker) begin(size int, width int) {
	m.size = size
	m.width = width
	m.step = stepForm
	m.at = 0
}

// Code answers what was made, once Give has said Done.
func (m *Maker) Code() Code { return m.code }

// Width tells how many bits the next number has.
func (m *Maker) Width() int {
	switch m.step {
	case stepForm:
		return 1
	case stepCount:
		return 2
	case stepSymbol:
		return m.width
	case stepLength:
		return 4
	}
	return timesWidth(m.repeat)
}

// timesWidth tells how many bits say how many more lengths there are than a repeat tells at least.
func timesWidth(repeat int) int {
	switch repeat {
	case again:
		return 2
	case fewZeros:
		return 3
	}
	return 6
}

// Give takes the next number: of as many bits as Width says.
func (m *Maker) Give(v int) int {
	switch m.step {
	case stepForm:
		m.step = stepCount
		if v == 1 {
			m.step = stepLength
		}
		return More
	case stepCount:
		m.wanted = v + 1
		m.step = stepSymbol
		return More
	case stepSymbol:
		return m.name(v)
	case stepLength:
		return m.length(v)
	}
	return m.times(v)
}

// name takes a symbol of the simple form. Symbols come there in the order of their lengths: none needs sorting.
func (m *Maker) name(symbol int) int {
	if symbol >= m.size || m.at >= len(m.code.symbols) {
		return Wrong
	}
	if m.at > 0 && symbol <= m.code.symbols[m.at-1] {
		return Wrong
	}
	m.code.symbols[m.at] = symbol
	m.at++
	if m.at < m.wanted {
		return More
	}
	m.code.counts = simpleCounts(m.wanted)
	return Done
}

// simpleCounts tells how many symbols each length has in the simple form of n symbols.
func simpleCounts(n int) [api.MaxLength + 1]int {
	switch n {
	case 1:
		return [api.MaxLength + 1]int{1}
	case 2:
		return [api.MaxLength + 1]int{0, 2}
	case 3:
		return [api.MaxLength + 1]int{0, 1, 2}
	}
	return [api.MaxLength + 1]int{0, 0, 4}
}

// length takes a number of the full form: a length, or the beginning of a repeat.
func (m *Maker) length(v int) int {
	if v <= api.MaxLength {
		return m.lay(v, 1)
	}
	// That nothing is there to be repeated is found here, ahead of the number of times.
	if v == again && m.at == 0 {
		return Wrong
	}
	m.repeat = v
	m.step = stepTimes
	return More
}

// times takes the number that says how often a repeat's length comes.
func (m *Maker) times(v int) int {
	m.step = stepLength
	switch m.repeat {
	case again:
		return m.lay(m.before(), againLeast+v)
	case fewZeros:
		return m.lay(0, fewLeast+v)
	}
	return m.lay(0, manyLeast+v)
}

func (m *Maker) before() int {
	if m.at < 1 || m.at > len(m.lengths) {
		return 0
	}
	return m.lengths[m.at-1]
}

// lay sets the next lengths. Their sum is looked at with the last one, though it may be too great before that.
func (m *Maker) lay(length int, times int) int {
	end := m.at + times
	if end > m.size || end > len(m.lengths) {
		return Wrong
	}
	for m.at < end {
		m.lengths[m.at] = length
		m.at++
	}
	if m.at < m.size {
		return More
	}
	whole := m.code.count(m.lengths[:m.at])
	if !whole {
		return Wrong
	}
	m.code.order(m.lengths[:m.at])
	return Done
}
