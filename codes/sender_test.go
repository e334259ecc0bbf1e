package codes

import (
	"math/rand"
	"testing"

	"wring/api"
	"wring/bits"
)

// stream is bits that are read one by one.
type stream struct {
	s   string
	pos int
}

func (x *stream) bit() int {
	b := int(x.s[x.pos/8]) >> (x.pos % 8) & 1
	x.pos++
	return b
}

func (x *stream) number(width int) int {
	v := 0
	for i := range width {
		v += x.bit() << i
	}
	return v
}

// readCode hands a maker what a sender has told.
func readCode(t *testing.T, x *stream, letters bool) Code {
	t.Helper()
	m := &Maker{}
	m.Distances()
	if letters {
		m.Letters()
	}
	said := More
	for said == More {
		said = m.Give(x.number(m.Width()))
	}
	if said != Done {
		t.Fatalf("the code that is told is wrong")
	}
	return m.Code()
}

func readSymbol(t *testing.T, x *stream, c *Code) int {
	t.Helper()
	hold := 0
	for have := range api.MaxLength + 1 {
		if symbol, n := c.Find(hold, have); n <= have {
			return symbol
		}
		hold += x.bit() << have
	}
	t.Fatalf("no symbol")
	return 0
}

// sent tells a code and all the symbols in a row, reads both, and answers how many bits there were.
func sent(t *testing.T, counts []int) int {
	t.Helper()
	letters := len(counts) == api.Letters
	var s Sender
	if letters {
		s = ForLetters([api.Letters]int(counts))
	} else {
		s = ForDistances([api.Far]int(counts))
	}
	row := &bits.Row{}
	s.Tell(row)
	for symbol, n := range counts {
		for range n {
			s.Put(row, symbol)
		}
	}
	size := row.Size()
	row.Fill()
	x := &stream{s: row.Take() + "\x00\x00"}
	code := readCode(t, x, letters)
	for symbol, n := range counts {
		for range n {
			if got := readSymbol(t, x, &code); got != symbol {
				t.Fatalf("the symbol %d is read as %d", symbol, got)
			}
		}
	}
	if x.pos != size {
		t.Fatalf("%d bits are told, %d are read", size, x.pos)
	}
	return size
}

// letterCounts: how often letters come, by pairs of a letter and a number.
func letterCounts(pairs ...int) []int {
	counts := make([]int, api.Letters)
	for i := 0; i < len(pairs); i += 2 {
		counts[pairs[i]] = pairs[i+1]
	}
	return counts
}

// TestFewSymbols: the simple form, and the full one where that is shorter.
func TestFewSymbols(t *testing.T) {
	for _, c := range []struct {
		counts []int
		size   int
	}{
		{make([]int, api.Letters), 12},
		{make([]int, api.Far), 7},
		{letterCounts(97, 4096), 12},
		{letterCounts(271, 1), 12},
		{letterCounts(0, 1, 271, 4095), 21 + 4096},
		{letterCounts(97, 10, 98, 3, 99, 2), 30 + 10 + 6 + 4},
		{letterCounts(97, 1, 98, 1, 99, 1, 100, 1), 39 + 8},
		// Here c with one bit makes up for a longer code: zeros (74, 23, 74, 74, 24: 10 bits each) and three lengths.
		{letterCounts(97, 2, 98, 3, 99, 1000), 1 + 20 + 12 + 30 + 1000 + 10},
		{letterCounts(97, 1, 98, 1, 99, 2, 100, 1000), 1 + 20 + 16 + 30 + 1000 + 2*2 + 3 + 3},
		{[]int{0, 7, 0, 0, 9, 0, 0, 0, 0, 0, 0, 0, 0, 0, 0, 0}, 11 + 16},
	} {
		if got := sent(t, c.counts); got != c.size {
			t.Errorf("%v: %d bits, want %d", c.counts, got, c.size)
		}
	}
}

// TestRepeats: runs of lengths of all sizes, at the beginning, in the middle and at the end.
func TestRepeats(t *testing.T) {
	for run := 1; run < api.Letters; run++ {
		for _, at := range []int{0, 1, 2, 100, api.Letters - run} {
			if at+run > api.Letters {
				continue
			}
			same := make([]int, api.Letters)
			other := make([]int, api.Letters)
			for i := range same {
				if i >= at && i < at+run {
					same[i] = 1
				} else {
					other[i] = 1
				}
			}
			sent(t, same)
			sent(t, other)
		}
	}
	for row := 0; row < 1<<api.Far; row += 7 {
		far := make([]int, api.Far)
		for i := range far {
			far[i] = row >> i & 1
		}
		sent(t, far)
	}
}

// TestTold: which numbers tell lengths; each repeat at the fewest and the most times that it can tell.
func TestTold(t *testing.T) {
	for _, c := range []struct {
		lengths []int
		numbers [][2]int
	}{
		{[]int{1, 0, 0, 0, 0, 0, 0, 0, 0, 0, 0, 0, 1, 0, 0, 0}, [][2]int{{1, 4}, {15, 4}, {0, 6}, {1, 4}, {14, 4}, {0, 3}}},
		{[]int{1, 0, 0, 0, 0, 0, 0, 0, 0, 0, 0, 1, 0, 0, 0, 0}, [][2]int{{1, 4}, {14, 4}, {7, 3}, {1, 4}, {14, 4}, {1, 3}}},
		{[]int{0, 0, 1, 1, 0, 0, 0, 0, 0, 0, 0, 0, 0, 0, 0, 0}, [][2]int{{0, 4}, {0, 4}, {1, 4}, {1, 4}, {15, 4}, {1, 6}}},
		{[]int{4, 4, 4, 4, 4, 4, 4, 4, 4, 4, 4, 4, 4, 4, 4, 4}, [][2]int{{4, 4}, {13, 4}, {3, 2}, {13, 4}, {3, 2}, {13, 4}, {0, 2}}},
		{[]int{0, 0, 0, 3, 3, 3, 2, 2, 3, 0, 0, 0, 0, 0, 0, 0}, [][2]int{{14, 4}, {0, 3}, {3, 4}, {3, 4}, {3, 4}, {2, 4}, {2, 4}, {3, 4}, {14, 4}, {4, 3}}},
	} {
		s := Sender{size: api.Far, width: distancesWidth}
		copy(s.lengths[:], c.lengths)
		row, want := &bits.Row{}, &bits.Row{}
		s.Tell(row)
		want.Number(1, 1)
		for _, n := range c.numbers {
			want.Number(n[0], n[1])
		}
		row.Fill()
		want.Fill()
		if got, want := row.Take(), want.Take(); got != want {
			t.Errorf("%v: %x, want %x", c.lengths, got, want)
		}
	}
}

// TestLengths: lengths make a full sum, none is too long, and none takes more than the symbol's part of the whole allows.
func TestLengths(t *testing.T) {
	r := rand.New(rand.NewSource(30))
	for range 3000 {
		counts := make([]int, []int{api.Far, api.Letters}[r.Intn(2)])
		left := api.MaxBlock
		for range 2 + r.Intn(500) {
			n := 1 + r.Intn(1+left>>r.Intn(13))
			if n < left {
				counts[r.Intn(len(counts))] += n
				left -= n
			}
		}
		if left > 0 && r.Intn(3) > 0 {
			counts[r.Intn(len(counts))] += left
		}
		checkLengths(t, counts)
		sent(t, counts)
	}
}

func checkLengths(t *testing.T, counts []int) {
	t.Helper()
	total, used := 0, 0
	for _, n := range counts {
		total += n
		used += min(n, 1)
	}
	if used < 2 {
		return
	}
	sum := 0
	for i, length := range lengthsFor(counts) {
		if i >= len(counts) || counts[i] == 0 {
			if length != 0 {
				t.Fatalf("%v: the symbol %d does not come, and has %d bits", counts, i, length)
			}
			continue
		}
		if length < 1 || length > api.MaxLength {
			t.Fatalf("%v: the symbol %d has %d bits", counts, i, length)
		}
		if length > 1 && counts[i]<<(length-1) >= total {
			t.Fatalf("%v: the symbol %d has %d bits, and comes %d times of %d", counts, i, length, counts[i], total)
		}
		sum += 4096 >> length
	}
	if sum != 4096 {
		t.Fatalf("%v: the sum is %d of 4096", counts, sum)
	}
}

// TestDeepest: counts by which some codes have lengths beyond MaxLength, and by which each is as long as it may be.
func TestDeepest(t *testing.T) {
	steep := make([]int, api.Far)
	a, b := 1, 1
	for i := range steep {
		steep[i] = a
		a, b = b, a+b
	}
	checkLengths(t, steep)
	sent(t, steep)
	halves := make([]int, api.Letters)
	for i := range 12 {
		halves[20*i] = 2048 >> i
	}
	halves[271] = 1
	checkLengths(t, halves)
	sent(t, halves)
	for i := range halves {
		halves[i] = 1
	}
	halves[7] = api.MaxBlock - 271
	checkLengths(t, halves)
	sent(t, halves)
}

// TestWrongSymbol: what is no symbol takes no bits.
func TestWrongSymbol(t *testing.T) {
	s := ForDistances([api.Far]int{1, 2, 3, 4, 5})
	row := &bits.Row{}
	for _, symbol := range []int{-1 << 40, -1, api.Letters, 1 << 40} {
		s.Put(row, symbol)
	}
	if row.Size() != 0 {
		t.Errorf("%d bits", row.Size())
	}
}
