package writer

import (
	"encoding/hex"
	"strings"
	"testing"
)

func checkHex(t *testing.T, why string, got string, want string) {
	t.Helper()
	if g := hex.EncodeToString([]byte(got)); g != strings.ReplaceAll(want, " ", "") {
		t.Errorf("%s: %s, want %s", why, g, want)
	}
}

// TestBits: the lowest bit comes first, in numbers and in bytes.
func TestBits(t *testing.T) {
	b := &bits{}
	b.number(1, 1)
	b.number(0, 2)
	b.number(0xabc, 12)
	checkHex(t, "15 bits, the whole bytes", b.take(), "e1")
	b.fill()
	checkHex(t, "the fill", b.take(), "55")
	b.fill()
	checkHex(t, "no fill", b.take(), "")
	b.number(0x80, 8)
	b.number(0, 0)
	checkHex(t, "a byte", b.take(), "80")
	if b.have != 0 || b.hold != 0 {
		t.Errorf("%d bits are left: %d", b.have, b.hold)
	}
}

// TestStreams: the examples of the document that are made of these blocks.
func TestStreams(t *testing.T) {
	x := New(0)
	checkHex(t, "nothing", x.Finish(), "10")
	x = New(0)
	checkHex(t, "a flush", x.Flush(), "00")
	checkHex(t, "another one", x.Flush(), "")
	checkHex(t, "nothing behind them", x.Finish(), "01")
	x = New(0)
	checkHex(t, "3 bytes wait", x.Write("abc"), "")
	checkHex(t, "3 bytes", x.Finish(), "30 01 00 61 62 63")
	x = New(0)
	checkHex(t, "a note", x.Note("hi"), "60 01 68 69")
	checkHex(t, "behind it", x.Finish(), "01")
}

// TestOrder: a note stands where it was asked for among the bytes.
func TestOrder(t *testing.T) {
	x := New(8)
	x.Write("a")
	checkHex(t, "a note behind a byte", x.Note("n"), "28 00 00 61 0e 00 6e")
	x.Write("b")
	checkHex(t, "a flush behind both", x.Flush(), "02 00 62")
	checkHex(t, "the end", x.Finish(), "01")
}

// TestFull: a full block goes out with the byte behind it, or is the LAST one.
func TestFull(t *testing.T) {
	s := strings.Repeat("a", 4096)
	x := New(0)
	if out := x.Write(s); out != "" {
		t.Errorf("a full block: %d bytes, want none", len(out))
	}
	if out := x.Write("b"); out != "\xa0\xff\x07"+s {
		t.Errorf("a byte behind it: %.10x, %d bytes", out, len(out))
	}
	checkHex(t, "the byte", x.Finish(), "03 00 62")
	x = New(0)
	x.Write(s)
	if out := x.Finish(); out != "\xb0\xff\x07"+s {
		t.Errorf("a full block, LAST: %.10x, %d bytes", out, len(out))
	}
}
