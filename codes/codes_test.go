package codes

import (
	"strings"
	"testing"

	"wring/api"
)

// give hands numbers to a maker and answers what it said to the last one.
func give(t *testing.T, m *Maker, numbers ...int) int {
	t.Helper()
	said := More
	for i, v := range numbers {
		if said != More {
			t.Fatalf("number %d of %v: said %d already", i, numbers, said)
		}
		if v >= 1<<m.Width() {
			t.Fatalf("number %d of %v: has %d bits", i, numbers, m.Width())
		}
		said = m.Give(v)
	}
	return said
}

// find looks for the symbol of bits that are written down, the first bit first.
func find(c Code, bits string) (int, int) {
	hold := 0
	for i := range bits {
		hold |= int(bits[i]-'0') << i
	}
	return c.Find(hold, len(bits))
}

// want tests that the code has these symbols, by these bits, and finds none by fewer bits.
func want(t *testing.T, c Code, symbols []int, bits []string) {
	t.Helper()
	for i, b := range bits {
		for _, more := range []string{"", "0", "1", "0110"} {
			if s, n := find(c, b+more); s != symbols[i] || n != len(b) {
				t.Errorf("bits %s and %q: symbol %d by %d bits, want %d by %d", b, more, s, n, symbols[i], len(b))
			}
		}
		for cut := range len(b) {
			if s, n := find(c, b[:cut]); s != 0 || n <= cut {
				t.Errorf("bits %s, cut to %d: symbol %d by %d bits, want none", b, cut, s, n)
			}
		}
	}
}

func TestSimple(t *testing.T) {
	symbols := []int{0, 97, 256, 271}
	for n, bits := range [][]string{{""}, {"0", "1"}, {"0", "10", "11"}, {"00", "01", "10", "11"}} {
		var m Maker
		m.Letters()
		if said := give(t, &m, append([]int{0, n}, symbols[:n+1]...)...); said != Done {
			t.Errorf("n %d: said %d", n+1, said)
		}
		want(t, m.Code(), symbols, bits)
	}
}

func TestSimpleWrong(t *testing.T) {
	for _, numbers := range [][]int{{0, 0, 272}, {0, 0, 511}, {0, 1, 5, 5}, {0, 1, 5, 4}, {0, 3, 1, 2, 3, 3}, {0, 2, 0, 271, 272}} {
		var m Maker
		m.Letters()
		if said := give(t, &m, numbers...); said != Wrong {
			t.Errorf("letters %v: said %d", numbers, said)
		}
	}
	var m Maker
	m.Distances()
	if said := give(t, &m, 0, 1, 15, 15); said != Wrong {
		t.Errorf("distance 15 twice: said %d", said)
	}
	m.Distances()
	if said := give(t, &m, 0, 1, 14, 15); said != Done {
		t.Errorf("distances 14 and 15: said %d", said)
	}
}

func TestFullDistances(t *testing.T) {
	var m Maker
	m.Distances()
	// lengths: 3 0 0 0 2 2 2 0*8 3
	if said := give(t, &m, 1, 3, 14, 0, 2, 2, 2, 14, 5, 3); said != Done {
		t.Fatalf("said %d", said)
	}
	want(t, m.Code(), []int{4, 5, 6, 0, 15}, []string{"00", "01", "10", "110", "111"})
	m.Distances()
	// lengths: 1 2 3 and so on to 12, 12, and 3 that are not used
	if said := give(t, &m, 1, 1, 2, 3, 4, 5, 6, 7, 8, 9, 10, 11, 12, 12, 14, 0); said != Done {
		t.Fatalf("long ones: said %d", said)
	}
	var symbols []int
	var bits []string
	for i := range 12 {
		symbols = append(symbols, i)
		bits = append(bits, strings.Repeat("1", i)+"0")
	}
	want(t, m.Code(), append(symbols, 12), append(bits, strings.Repeat("1", 12)))
}

// TestAfresh: nothing of a code is left in the next one.
func TestAfresh(t *testing.T) {
	var m Maker
	m.Letters()
	give(t, &m, 1, 8, 13, 3, 13, 3)
	m.Letters()
	if said := give(t, &m, 1, 13); said != Wrong {
		t.Errorf("13 at the beginning of the second code: said %d", said)
	}
	m.Distances()
	give(t, &m, 0, 0, 7)
	m.Distances()
	if said := give(t, &m, 1, 15, 3, 1, 1); said != Done {
		t.Errorf("full behind simple: said %d", said)
	}
	want(t, m.Code(), []int{14, 15}, []string{"0", "1"})
	m.Distances()
	give(t, &m, 0, 0, 7)
	want(t, m.Code(), []int{7}, []string{""})
}

func TestFullWrong(t *testing.T) {
	for _, c := range []struct {
		why     string
		numbers []int
		said    int
	}{
		{"none before 13", []int{1, 13}, Wrong},
		{"noughts before 13", []int{1, 0, 13, 3}, More},
		{"16 lengths of 4 bits", []int{1, 4, 13, 3, 13, 3, 13, 0}, Done},
		{"17 lengths", []int{1, 4, 13, 3, 13, 3, 13, 1}, Wrong},
		{"17 lengths by 14", []int{1, 1, 1, 14, 7, 14, 2}, Wrong},
		{"17 lengths by 15", []int{1, 1, 1, 15, 4}, Wrong},
		{"16 lengths by 15", []int{1, 1, 1, 15, 3}, Done},
		{"no lengths", []int{1, 15, 5}, Wrong},
		{"a sum of 1/2", []int{1, 15, 4, 1}, Wrong},
		{"a sum just below 1", []int{1, 1, 2, 3, 4, 5, 6, 7, 8, 9, 10, 11, 12, 0, 0, 0, 0}, Wrong},
		{"a sum just above 1", []int{1, 1, 2, 3, 4, 5, 6, 7, 8, 9, 10, 11, 12, 12, 12, 0, 0}, Wrong},
		{"too great a sum, but not all is there", []int{1, 1, 1, 1, 1, 1, 1, 1, 1, 1, 1, 1, 1, 1, 1, 1}, More},
		{"too great a sum", []int{1, 1, 1, 1, 1, 1, 1, 1, 1, 1, 1, 1, 1, 1, 1, 1, 1}, Wrong},
		{"a length of 0 is no symbol of no bits", []int{1, 14, 7, 14, 3}, Wrong},
	} {
		var m Maker
		m.Distances()
		if said := give(t, &m, c.numbers...); said != c.said {
			t.Errorf("%s: said %d, want %d", c.why, said, c.said)
		}
	}
}

// TestAllLetters: 240 symbols of 8 bits and 32 of 9 use up all bits.
func TestAllLetters(t *testing.T) {
	numbers := []int{1}
	for i := range api.Letters {
		numbers = append(numbers, 8+max(0, i-239)/max(1, i-239))
	}
	var m Maker
	m.Letters()
	if said := give(t, &m, numbers...); said != Done {
		t.Fatalf("said %d", said)
	}
	want(t, m.Code(), []int{0, 1, 239, 240, 241, 271}, []string{"00000000", "00000001", "11101111", "111100000", "111100001", "111111111"})
}

// TestFindAtAnyBits: no number makes Find panic.
func TestFindAtAnyBits(t *testing.T) {
	var c Code
	for _, hold := range []int{0, -1, 1, 1 << 62, -1 << 63} {
		for _, have := range []int{-1 << 63, -1, 0, 1, 12, 13, 1000} {
			c.Find(hold, have)
		}
	}
}
