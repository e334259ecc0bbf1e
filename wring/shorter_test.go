package wring_test

import (
	"math/rand"
	"strings"
	"testing"
)

// way says where flushes and notes stand: behind each so many pieces of a size; 0: none.
type way struct {
	size, flush, note int
}

var ways = []way{{1 << 30, 0, 0}, {1000, 0, 0}, {1000, 3, 0}, {4096, 1, 0}, {4097, 1, 1}, {100, 0, 2}, {17, 5, 3}, {7, 1, 0}, {1, 1, 0}, {1, 0, 1}, {2, 1, 1}}

// all writes a text that way. What P6 to P9 say is tested by flush and finish.
func (c *encoding) all(s string, w way) {
	c.t.Helper()
	for i, p := range piecesOf(s, w.size) {
		c.write(p)
		if w.note > 0 && i%w.note == 0 {
			c.note(text(i * 7 % 256))
		}
		if w.flush > 0 && i%w.flush == 0 {
			c.flush()
		}
	}
	c.finish()
}

// fits says whether a way is not too slow a one for so many bytes: each flush is tested by reading all that was answered.
func (w way) fits(n int) bool {
	return w.flush == 0 && w.note == 0 || n/w.size < 40
}

// TestSame: texts of one byte over and over (P9).
func TestSame(t *testing.T) {
	for l := range 3 {
		for w := range 9 {
			for _, one := range []string{"\x00", "q", "\xff"} {
				for _, n := range []int{0, 1, 2, 3, 4, 5, 6, 7, 8, 9, 15, 16, 17, 100, 519, 520, 521, 522, 523, 524, 4095, 4096, 4097, 4098, 8192, 8193, 20000} {
					for _, way := range ways {
						if way.fits(n) {
							begin(t, w, l).all(strings.Repeat(one, n), way)
						}
					}
				}
			}
		}
	}
}

// periods: what is written over and over; p bytes, and among them less than p that are different.
func periods(r *rand.Rand) []string {
	all := []string{"ab", "abc", "aab", "aabb", "abababababababac", "aaaaaaaaaaaaaaab", "baaaaaaaaaaaaaaa", "abcabcabcabcabcd", "\x02\x11\x21\x30\x42\x52\x60\x70\x81\x92\xa1\xb0\xc2\xd0\xe2\xf0"}
	for p := 1; p <= 16; p++ {
		for _, few := range []int{2, 3, 5, 256} {
			one := make([]byte, p)
			for i := range one {
				one[i] = byte(r.Intn(few) * (255 / (few - 1)))
			}
			all = append(all, string(one))
		}
		apart := make([]byte, p)
		for i := range apart {
			apart[i] = byte(i*16 + r.Intn(3))
		}
		r.Shuffle(p, func(i, j int) { apart[i], apart[j] = apart[j], apart[i] })
		all = append(all, string(apart))
	}
	return all
}

// TestPeriod: texts with a period up to 16 (P9).
func TestPeriod(t *testing.T) {
	r := rand.New(rand.NewSource(50))
	sizes := []int{1, 2, 15, 16, 17, 18, 19, 33, 100, 120, 128, 130, 135, 140, 160, 200, 300, 519, 520, 521, 537, 538, 4095, 4096, 4097, 4100, 8200, 20000}
	for _, one := range periods(r) {
		for _, n := range sizes {
			s := strings.Repeat(one, n/len(one)+1)[:n]
			for _, way := range ways {
				if way.fits(n) {
					begin(t, r.Intn(9), 2).all(s, way)
				}
			}
			begin(t, 0, 2).all(s, ways[0])
			begin(t, 8, 2).all(s, ways[1])
			begin(t, r.Intn(9), 1).all(s, ways[r.Intn(3)])
		}
	}
}

// TestBeyondPeriod: texts that come near to those of P9, with a period that is too long or changes.
func TestBeyondPeriod(t *testing.T) {
	r := rand.New(rand.NewSource(51))
	all := periods(r)
	for i := range 200 {
		s := ""
		for range 1 + r.Intn(6) {
			s += strings.Repeat(all[r.Intn(len(all))], r.Intn(300))
		}
		if i%3 == 0 {
			s = strings.Repeat(text(17+r.Intn(500)), 20)
		}
		for l := range 3 {
			begin(t, r.Intn(9), l).all(s, ways[r.Intn(6)])
		}
	}
}

// TestLevels: which blocks the levels make, and that ordinary texts become shorter by them.
func TestLevels(t *testing.T) {
	r := rand.New(rand.NewSource(52))
	words := strings.Fields("what is written goes out as blocks stored coded letters and copies of what came before by prefix codes or empty both sides work piece by piece")
	var b strings.Builder
	for b.Len() < 20000 {
		b.WriteString(words[r.Intn(len(words))])
		b.WriteString(" ")
	}
	var sizes [3]int
	for l := range 3 {
		c := begin(t, 8, l)
		c.all(b.String(), ways[1])
		m, _ := modelRead(string(c.out))
		sizes[l] = len(c.out)
		if (m.coded > 0) != (l > 0) || (m.copies > 0) != (l > 1) {
			t.Errorf("level %d: %d blocks are coded, there are %d copies", l, m.coded, m.copies)
		}
	}
	if sizes[1] > sizes[0]*6/10 || sizes[2] > sizes[0]*4/10 {
		t.Errorf("%d bytes of text become %v by levels", b.Len(), sizes)
	}
}
