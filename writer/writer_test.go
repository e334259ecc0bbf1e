package writer

import (
	"encoding/hex"
	"strings"
	"testing"
)

func checkHex(t *testing.T, why string, got string, want string) {
	t.Helper()
	if g := hex.EncodeToString([]byte(got)); g != strings.ReplaceAll(want, " ", "") {
		t.Errorf("%s: %s, want %s", why, g, want)
	}
}

// TestStreams: the examples of the document that are made of these blocks.
func TestStreams(t *testing.T) {
	x := New(0, 0)
	checkHex(t, "nothing", x.Finish(), "10")
	x = New(0, 0)
	checkHex(t, "a flush", x.Flush(), "00")
	checkHex(t, "another one", x.Flush(), "")
	checkHex(t, "nothing behind them", x.Finish(), "01")
	x = New(0, 0)
	checkHex(t, "3 bytes wait", x.Write("abc"), "")
	checkHex(t, "3 bytes", x.Finish(), "30 01 00 61 62 63")
	x = New(0, 0)
	checkHex(t, "a note", x.Note("hi"), "60 01 68 69")
	checkHex(t, "behind it", x.Finish(), "01")
}

// TestOrder: a note stands where it was asked for among the bytes.
func TestOrder(t *testing.T) {
	x := New(8, 0)
	x.Write("a")
	checkHex(t, "a note behind a byte", x.Note("n"), "28 00 00 61 0e 00 6e")
	x.Write("b")
	checkHex(t, "a flush behind both", x.Flush(), "02 00 62")
	checkHex(t, "the end", x.Finish(), "01")
}

// TestFull: a full block goes out with the byte behind it, or is the LAST one.
func TestFull(t *testing.T) {
	s := strings.Repeat("a", 4096)
	x := New(0, 0)
	if out := x.Write(s); out != "" {
		t.Errorf("a full block: %d bytes, want none", len(out))
	}
	if out := x.Write("b"); out != "\xa0\xff\x07"+s {
		t.Errorf("a byte behind it: %.10x, %d bytes", out, len(out))
	}
	checkHex(t, "the byte", x.Finish(), "03 00 62")
	x = New(0, 0)
	x.Write(s)
	if out := x.Finish(); out != "\xb0\xff\x07"+s {
		t.Errorf("a full block, LAST: %.10x, %d bytes", out, len(out))
	}
}

// number: the bits of a number as they stand in a stream, written down one by one.
func number(v int, width int) string {
	s := ""
	for i := range width {
		s += string(rune('0' + v>>i&1))
	}
	return s
}

// packed makes bytes of bits that are written down; what is missing in the last byte is 0.
func packed(parts ...string) string {
	all := strings.Join(parts, "")
	out := make([]byte, (len(all)+7)/8)
	for i := range len(all) {
		out[i/8] |= (all[i] - '0') << (i % 8)
	}
	return string(out)
}

func finished(window int, level int, s string) string {
	x := New(window, level)
	return x.Write(s) + x.Finish()
}

// TestCoded: coded blocks, bit by bit.
func TestCoded(t *testing.T) {
	for _, level := range []int{1, 2} {
		checkHex(t, "the document's example", finished(0, level, "aaaa"), "d0 01 40 18 00")
		checkHex(t, "a few bytes are shorter as they are", finished(0, level, "aa"), "b0 00 00 61 61")
	}
	ab := strings.Repeat("ab", 100)
	head := number(3, 4) + "1" + number(2, 2) + number(199, 12)
	letters := packed(head, "0", number(1, 2), number('a', 9), number('b', 9), "0", "00", number(0, 4), strings.Repeat("01", 100))
	if got := finished(3, 1, ab); got != letters {
		t.Errorf("level 1: %x, want %x", got, letters)
	}
	copied := packed(head, "0", number(2, 2), number('a', 9), number('b', 9), number(270, 9), "0", "00", number(1, 4), "0", "10", "11", number(198-137, 7))
	if got := finished(3, 2, ab); got != copied {
		t.Errorf("level 2: %x, want %x", got, copied)
	}
	if got := finished(3, 0, ab); got != "\xb3\x63\x00"+ab {
		t.Errorf("level 0: %x", got)
	}
}

// TestCodedFull: a code of the full form, with repeats of all kinds.
func TestCodedFull(t *testing.T) {
	s := strings.Repeat("abcdefgh", 40)
	head := number(8, 4) + "1" + number(2, 2) + number(319, 12)
	zeros := func(n int) string { return number(15, 4) + number(n-11, 6) }
	code := "1" + zeros(74) + zeros(23) + number(3, 4) + number(13, 4) + number(3, 2) + number(3, 4) + zeros(74) + zeros(74) + zeros(19)
	want := packed(head, code, "0", "00", number(0, 4), strings.Repeat("000"+"001"+"010"+"011"+"100"+"101"+"110"+"111", 40))
	if got := finished(8, 1, s); got != want {
		t.Errorf("%x, want %x", got, want)
	}
}

// TestBehindCoded: what stands behind a coded block, which ends anywhere in a byte.
func TestBehindCoded(t *testing.T) {
	head := number(8, 4)
	block := "0" + number(2, 2) + number(3, 12) + "0" + "00" + number('a', 9) + "0" + "00" + number(0, 4)
	x := New(8, 1)
	x.Write("aaaa")
	if got, want := x.Flush(), packed(head, block, "0", "00"); got != want {
		t.Errorf("a flush: %x, want %x", got, want)
	}
	checkHex(t, "nothing to flush", x.Flush(), "")
	checkHex(t, "the end", x.Finish(), "01")
	x = New(8, 1)
	x.Write("aaaa")
	if got, want := x.Note("n"), packed(head, block, "0", "11", number(1, 8))+"n"; got != want {
		t.Errorf("a note: %x, want %x", got, want)
	}
	x = New(8, 1)
	full := strings.Repeat("a", 4096)
	first := strings.Replace(block, number(3, 12), number(4095, 12), 1)
	got := x.Write(full+full) + x.Finish()
	if want := packed(head, first, "1", first[1:]); got != want {
		t.Errorf("two blocks: %x, want %x", got, want)
	}
}

// TestDistances: the last distances go on over blocks, but only over those that go out with copies.
func TestDistances(t *testing.T) {
	x := New(8, 2)
	near := x.recent
	x.Write("abcdeabcde")
	x.Flush()
	if x.recent != near {
		t.Errorf("behind a stored block: %v", x.recent)
	}
	x.Write(strings.Repeat("a", 1000))
	x.Flush()
	if x.recent != near {
		t.Errorf("behind letters: %v", x.recent)
	}
	x.Write(strings.Repeat("abcdefg", 100))
	x.Flush()
	near.Add(7)
	if x.recent != near {
		t.Errorf("behind a copy from 7 bytes ago: %v, want %v", x.recent, near)
	}
	x.Write(strings.Repeat("abcdefg", 100))
	x.Flush()
	if x.recent != near {
		t.Errorf("behind another one: %v, want %v", x.recent, near)
	}
}
