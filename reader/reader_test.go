package reader

import (
	"strings"
	"testing"

	"wring/api"
)

// two: abababab by a copy, and behind it bytes that are stored.
const two = "\xc0\x03\x60\x18\x31\x03\x11\x7a\x02\x00xyz"

// TestPieces: what comes out hangs on no cut.
func TestPieces(t *testing.T) {
	for i := range len(two) + 1 {
		for j := i; j <= len(two); j++ {
			x := New()
			a := x.Read(two[:i])
			b := x.Read(two[i:j])
			c := x.Read(two[j:])
			if out := a + b + c; out != "ababababxyz" || x.Errno() != api.OK {
				t.Errorf("cut at %d and %d: %q, %q, %q, %d", i, j, a, b, c, x.Errno())
			}
		}
	}
}

// TestEachByte: a piece lets out what its own bits complete, no more.
func TestEachByte(t *testing.T) {
	x := New()
	for i, want := range []string{"", "", "", "", "", "", "", "abababab", "", "", "x", "y", "z"} {
		if x.Errno() != api.ErrTruncated {
			t.Errorf("ahead of byte %d: %d", i, x.Errno())
		}
		if out := x.Read(two[i : i+1]); out != want {
			t.Errorf("byte %d: %q, want %q", i, out, want)
		}
	}
	if x.Errno() != api.OK {
		t.Errorf("at the end: %d", x.Errno())
	}
}

func TestBehindTheEnd(t *testing.T) {
	for _, c := range []struct {
		s string
		e api.Errno
	}{{"\x10", api.ErrTrailing}, {"\x90", api.ErrCorrupt}, {"\x10\x00", api.ErrTrailing}} {
		x := New()
		x.Read(c.s)
		for range 3 {
			if out := x.Read(strings.Repeat(two, 3)); out != "" || x.Errno() != c.e {
				t.Errorf("behind %x: %q, %d, want %d", c.s, out, x.Errno(), c.e)
			}
		}
	}
}

// TestReach: the last bytes are there as far as the window goes, also where the ring begins anew.
func TestReach(t *testing.T) {
	p := past{window: 32}
	for i := range 3 * ring {
		p.add(byte(i % 251))
		if p.reach != min(i+1, 32) {
			t.Fatalf("reach %d behind %d bytes", p.reach, i+1)
		}
		for d := 1; d <= p.reach; d++ {
			if c := p.ago(d); c != byte((i+1-d)%251) {
				t.Fatalf("%d bytes, %d ago: %d", i+1, d, c)
			}
		}
	}
}
