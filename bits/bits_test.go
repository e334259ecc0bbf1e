package bits

import (
	"encoding/hex"
	"strings"
	"testing"
)

func checkHex(t *testing.T, why string, got string, want string) {
	t.Helper()
	if g := hex.EncodeToString([]byte(got)); g != strings.ReplaceAll(want, " ", "") {
		t.Errorf("%s: %s, want %s", why, g, want)
	}
}

// TestNumber: the lowest bit comes first, in numbers and in bytes.
func TestNumber(t *testing.T) {
	r := &Row{}
	r.Number(1, 1)
	r.Number(0, 2)
	r.Number(0xabc, 12)
	if r.Even() || r.Size() != 15 {
		t.Errorf("15 bits: %v, %d", r.Even(), r.Size())
	}
	checkHex(t, "15 bits, the whole bytes", r.Take(), "e1")
	if r.Even() || r.Size() != 7 {
		t.Errorf("the 7 bits that are left: %v, %d", r.Even(), r.Size())
	}
	r.Fill()
	checkHex(t, "the fill", r.Take(), "55")
	r.Fill()
	checkHex(t, "no fill", r.Take(), "")
	r.Number(0x80, 8)
	r.Number(0, 0)
	checkHex(t, "a byte", r.Take(), "80")
	if !r.Even() || r.Size() != 0 {
		t.Errorf("nothing is left: %v, %d", r.Even(), r.Size())
	}
}

// TestAdd: rows of all sizes behind rows of all sizes are the bits of both.
func TestAdd(t *testing.T) {
	for a := range 20 {
		for b := range 40 {
			both, first, second := &Row{}, &Row{}, &Row{}
			for i := range a {
				both.Number(i%3%2, 1)
				first.Number(i%3%2, 1)
			}
			for i := range b {
				both.Number(i%5%2, 1)
				second.Number(i%5%2, 1)
			}
			first.Add(second)
			if first.Size() != a+b || second.Size() != b {
				t.Fatalf("%d bits and %d are %d (and %d)", a, b, first.Size(), second.Size())
			}
			first.Fill()
			both.Fill()
			if g, w := first.Take(), both.Take(); g != w {
				t.Fatalf("%d bits and %d: %x, want %x", a, b, g, w)
			}
		}
	}
}
