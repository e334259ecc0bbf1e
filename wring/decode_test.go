package wring_test

import (
	"encoding/hex"
	"math/bits"
	"strings"
	"testing"

	"wring/api"
	"wring/wring"
)

// row is a stream, and what Decode is to answer.
type row struct {
	why string
	s   string
	out string
	e   api.Errno
}

// check also feeds the streams in pieces (P3), and tests that bytes behind a stream are found, and that bytes behind a fault change nothing.
func check(t *testing.T, rows []row) {
	t.Helper()
	for _, c := range rows {
		if out, e := wring.Decode(c.s); out != c.out || e != c.e {
			t.Errorf("P2: %s: Decode(%x) = %q, %d, want %q, %d", c.why, c.s, out, e, c.out, c.e)
		}
		checkPieces(t, c.s, c.out, c.e)
		behind := c.e
		if c.e == api.OK {
			behind = api.ErrTrailing
		}
		if out, e := wring.Decode(c.s + "\xff"); c.e != api.ErrTruncated && (out != c.out || e != behind) {
			t.Errorf("P2: %s, and a byte behind it: Decode(%x ff) = %q, %d, want %q, %d", c.why, c.s, out, e, c.out, behind)
		}
	}
}

// checkEnd tests that the last byte of each stream is wanted: without it the stream is truncated, and as much as cut comes out.
func checkEnd(t *testing.T, rows []row, cut string) {
	t.Helper()
	check(t, rows)
	for _, c := range rows {
		s := c.s[:len(c.s)-1]
		if out, e := wring.Decode(s); out != cut || e != api.ErrTruncated {
			t.Errorf("P2: %s, without the last byte: Decode(%x) = %q, %d, want %q, ErrTruncated", c.why, s, out, e, cut)
		}
	}
}

func bytesOf(t *testing.T, s string) string {
	b, err := hex.DecodeString(strings.ReplaceAll(s, " ", ""))
	if err != nil {
		t.Fatal(err)
	}
	return string(b)
}

func TestExamples(t *testing.T) {
	for _, c := range []row{
		{"an empty block", "10", "", api.OK},
		{"two empty blocks", "00 01", "", api.OK},
		{"stored", "30 01 00 61 62 63", "abc", api.OK},
		{"a note", "60 01 68 69 01", "", api.OK},
		{"coded, one letter", "d0 01 40 18 00", "aaaa", api.OK},
		{"coded, a copy", "d0 03 60 18 31 03 11 1a", "abababab", api.OK},
		{"a byte behind the stream", "10 00", "", api.ErrTrailing},
		{"nothing at all", "", "", api.ErrTruncated},
		{"the size cut", "30 01", "", api.ErrTruncated},
		{"stored bytes cut", "30 01 00 61", "a", api.ErrTruncated},
		{"a command cut", "d0 03 60 18 31 03 11", "", api.ErrTruncated},
		{"a bit 1 in the fill", "90", "", api.ErrCorrupt},
		{"w 9", "19", "", api.ErrCorrupt},
		{"a note of no bytes", "70 00", "", api.OK},
		{"a byte behind a note", "70 00 00", "", api.ErrTrailing},
		{"too far back", "d0 03 60 18 31 03 21 1a", "ab", api.ErrCorrupt},
	} {
		c.s = bytesOf(t, c.s)
		check(t, []row{c})
	}
}

func TestWindows(t *testing.T) {
	for w := range 16 {
		e := api.OK
		if w > api.MaxWindow {
			e = api.ErrCorrupt
		}
		check(t, []row{{"w", stream(w).empty(emptyLast).bytes(), "", e}})
	}
	check(t, []row{{"w 8 and nothing behind it", "\x08", "", api.ErrTruncated}})
}

func TestBlocks(t *testing.T) {
	long := strings.Repeat("wring!..", api.MaxBlock/8)
	loud := strings.Repeat("\xff", api.MaxNote)
	check(t, []row{
		{"stored, 1 byte", stream(0).stored(storedLast, "x").bytes(), "x", api.OK},
		{"stored, 256 bytes", stream(0).stored(storedLast, long[:256]).bytes(), long[:256], api.OK},
		{"stored, 4096 bytes", stream(0).stored(storedLast, long).bytes(), long, api.OK},
		{"stored, all but one byte there", stream(0).stored(storedLast, long).bytes()[:api.MaxBlock+2], long[:api.MaxBlock-1], api.ErrTruncated},
		{"stored, the bytes that look like blocks", stream(0).stored(stored, "\x00\x01\xff").stored(storedLast, "\x10").bytes(), "\x00\x01\xff\x10", api.OK},
		{"stored, none is LAST", stream(0).stored(stored, "ab").bytes(), "ab", api.ErrTruncated},
		{"empty, none is LAST", stream(0).empty(empty).empty(empty).bytes(), "", api.ErrTruncated},
		{"a note, none is LAST", stream(0).note(note, "ab").bytes(), "", api.ErrTruncated},
		{"coded, none is LAST", stream(0).coded(coded, 2).letters('x').distances(0).bytes(), "xx", api.ErrTruncated},
		{"a note of 255 bytes", stream(0).note(noteLast, loud).bytes(), "", api.OK},
		{"a note of 255 bytes, one is not there", stream(0).note(noteLast, loud).bytes()[:api.MaxNote+1], "", api.ErrTruncated},
		{"a note of no bytes, then stored", stream(0).note(note, "").stored(storedLast, "x").bytes(), "x", api.OK},
		{"coded, 1 byte", stream(0).coded(codedLast, 1).letters('x').distances(0).bytes(), "x", api.OK},
		{"coded, 4096 bytes", stream(0).coded(codedLast, 4096).letters('x').distances(0).bytes(), strings.Repeat("x", 4096), api.OK},
		{"all kinds", stream(3).stored(stored, "ab").empty(empty).note(note, "no").coded(coded, 3).letters('c').distances(0).
			coded(coded, 2).letters('d', 'e').distances(0).bits("10").note(note, "").stored(stored, "f").empty(emptyLast).bytes(), "abcccedf", api.OK},
		{"LAST is the end, though a block follows", stream(0).stored(storedLast, "a").stored(storedLast, "b").bytes(), "a", api.ErrTrailing},
	})
}

// TestFill turns each bit of fill into a 1.
func TestFill(t *testing.T) {
	for _, c := range []struct {
		why   string
		ahead func() *builder
		out   string
		end   string // behind the fill
	}{
		{"empty", func() *builder { return stream(0).num(empty, 3) }, "", "\x01"},
		{"empty, LAST", func() *builder { return stream(0).num(emptyLast, 3) }, "", ""},
		{"stored", func() *builder { return stream(0).num(stored, 3).num(0, 12) }, "", "x\x01"},
		{"stored behind a byte's beginning", func() *builder { return stream(0).empty(empty).num(storedLast, 3).num(0, 12) }, "", "x"},
		{"a note", func() *builder { return stream(0).num(note, 3).num(1, 8) }, "", "x\x01"},
		{"a note, LAST", func() *builder { return stream(0).empty(empty).num(noteLast, 3).num(0, 8) }, "", ""},
		{"coded, LAST", func() *builder { return stream(0).coded(codedLast, 2).letters('x').distances(0) }, "xx", ""},
		{"stored behind coded", func() *builder {
			return stream(0).coded(coded, 2).letters('x').distances(0).num(storedLast, 3).num(0, 12)
		}, "xx", "y"},
	} {
		n := 8*len(c.ahead().b) - c.ahead().n
		if n == 0 {
			t.Fatalf("%s: no fill", c.why)
		}
		if _, e := wring.Decode(c.ahead().bytes() + c.end); e != api.OK {
			t.Errorf("P2: fill, %s: %d, want OK", c.why, e)
		}
		for i := range n {
			s := c.ahead().num(1<<i, n).bytes()
			check(t, []row{{"fill, " + c.why, s, c.out, api.ErrCorrupt}, {"fill, more behind, " + c.why, s + c.end, c.out, api.ErrCorrupt}})
		}
	}
}

// TestNoFill: a stream whose last bit is the last one of a byte.
func TestNoFill(t *testing.T) {
	for size := 1; size < 9; size++ {
		w := stream(0).coded(codedLast, size).letters('x', 'y').distances(0).bits(strings.Repeat("1", size))
		if w.n%8 == 0 {
			check(t, []row{{"coded, no fill at the end", w.bytes(), strings.Repeat("y", size), api.OK}})
			return
		}
	}
	t.Fatal("no size ends with a byte")
}

func TestSimpleCodes(t *testing.T) {
	block := func() *builder { return stream(0).coded(codedLast, 6) }
	check(t, []row{
		{"n 1", block().letters('a').distances(0).bytes(), "aaaaaa", api.OK},
		{"n 2", block().letters('a', 'b').distances(0).bits("010011").bytes(), "abaabb", api.OK},
		{"n 3", block().letters('a', 'b', 'c').distances(0).bits("0" + "10" + "11" + "0" + "11" + "10").bytes(), "abcacb", api.OK},
		{"n 4", block().letters('a', 'b', 'c', 'd').distances(0).bits("00" + "01" + "10" + "11" + "01" + "10").bytes(), "abcdbc", api.OK},
		{"letters 0 and 255", block().letters(0, 255).distances(0).bits("010101").bytes(), "\x00\xff\x00\xff\x00\xff", api.OK},
		{"distances, n 2", block().letters('a', 256).distances(0, 4).bits("001" + "0" + "0").bytes(), "aaaaaa", api.OK},
		{"a symbol cut", block().letters('a', 'b', 'c', 'd').distances(0).bits("00" + "01" + "10" + "11" + "00" + "01").bytes()[:9], "abc", api.ErrTruncated},
	})
	checkEnd(t, []row{
		{"letters, the same twice", block().letters('a', 'a').bytes(), "", api.ErrCorrupt},
		{"letters, falling", block().letters('b', 'a').bytes(), "", api.ErrCorrupt},
		{"letters, falling at the third", block().letters('a', 'c', 'b').bytes(), "", api.ErrCorrupt},
		{"letters, the same at the fourth", block().letters('a', 'b', 'c', 'c').bytes(), "", api.ErrCorrupt},
		{"letter 272", block().letters(272).bytes(), "", api.ErrCorrupt},
		{"letter 511", block().letters(511).bytes(), "", api.ErrCorrupt},
		{"letter 272 at the second", block().letters(271, 272).bytes(), "", api.ErrCorrupt},
		{"distances, the same twice", block().letters('a').distances(7, 7).bytes(), "", api.ErrCorrupt},
		{"distances, falling", block().letters('a').distances(3, 7, 6).bytes(), "", api.ErrCorrupt},
	}, "")
	// The fault is found with the symbol that is wrong, though others are to come.
	check(t, []row{
		{"letters, the second of four", block().num(0, 1).num(3, 2).num('b', 9).num('a', 9).bytes(), "", api.ErrCorrupt},
		{"letters, the first of four", block().num(0, 1).num(3, 2).num(272, 9).bytes(), "", api.ErrCorrupt},
		{"letter 271, and no room above it", block().num(0, 1).num(3, 2).num(271, 9).bytes(), "", api.ErrTruncated},
	})
}

func TestFullCodes(t *testing.T) {
	// a 1 bit (0), b 2 (10), and 256 (110), 271 (111) 3 each.
	letters := lengthsOf(272, 'a', 1, 'b', 2, 256, 3, 271, 3)
	distances := lengthsOf(16, 0, 2, 1, 2, 5, 1) // 5: 0, 0: 10, 1: 11
	deep := lengthsOf(272, 'l', 12, 'k', 12, 'j', 11, 'i', 10, 'h', 9, 'g', 8, 'f', 7, 'e', 6, 'd', 5, 'c', 4, 'b', 3, 'a', 2, 'z', 1)
	ones := strings.Repeat("1", 10)
	for _, plain := range []bool{false, true} {
		check(t, []row{
			{"full", stream(0).coded(codedLast, 5).full(letters, plain).full(distances, plain).bits("0" + "10" + "110" + "11").bytes(), "ababa", api.OK},
			{"full, symbol 0", stream(0).coded(codedLast, 5).full(letters, plain).full(distances, plain).bits("0" + "10" + "110" + "10").bytes(), "abbbb", api.OK},
			{"full, symbol 5 and a bit more", stream(0).coded(codedLast, 6).full(letters, plain).full(distances, plain).bits("0" + "0" + "10" + "110" + "0" + "1").bytes(), "aabaab", api.OK},
			{"full, 12 bits", stream(0).coded(codedLast, 4).full(deep, plain).distances(0).bits(ones + "11" + ones + "10" + ones + "0" + "0").bytes(), "lkjz", api.OK},
		})
	}
	all := make([]int, 272) // 240 of 8 bits, 32 of 9
	for i := range all {
		all[i] = 8
		if i >= 240 {
			all[i] = 9
		}
	}
	check(t, []row{
		{"all letters used", stream(0).coded(codedLast, 3).full(all, false).distances(0).bits("00000001" + "11101111" + "111100000").bytes(), "\x01\xef\xf0", api.OK},
	})
}

// TestRepeats: the numbers that stand for more than one length, with the least and the greatest number of times.
func TestRepeats(t *testing.T) {
	block := func() *builder { return stream(0).coded(codedLast, 2).letters('a').num(1, 1) }
	check(t, []row{
		{"13, 3 times", block().num(2, 4).num(13, 4).num(0, 2).num(15, 4).num(1, 6).bytes(), "aa", api.OK},
		{"13, 6 times", block().num(0, 4).num(0, 4).num(0, 4).num(1, 4).num(2, 4).num(5, 4).num(13, 4).num(3, 2).num(5, 4).num(14, 4).num(0, 3).bytes(), "aa", api.OK},
		{"13 behind 14", block().num(14, 4).num(7, 3).num(13, 4).num(1, 2).num(1, 4).num(1, 4).bytes(), "aa", api.OK},
		{"13 behind 13", block().num(4, 4).num(13, 4).num(3, 2).num(13, 4).num(3, 2).num(13, 4).num(0, 2).bytes(), "aa", api.OK},
		{"14, 3 times", block().num(14, 4).num(0, 3).num(1, 4).num(1, 4).num(15, 4).num(0, 6).bytes(), "aa", api.OK},
		{"15, 14 times", block().num(15, 4).num(3, 6).num(1, 4).num(1, 4).bytes(), "aa", api.OK},
		{"13, one too many", block().num(4, 4).num(13, 4).num(3, 2).num(13, 4).num(3, 2).num(13, 4).num(1, 2).bytes(), "", api.ErrCorrupt},
		{"14, one too many", block().num(1, 4).num(1, 4).num(14, 4).num(7, 3).num(14, 4).num(2, 3).bytes(), "", api.ErrCorrupt},
		{"15, one too many", block().num(1, 4).num(1, 4).num(15, 4).num(4, 6).bytes(), "", api.ErrCorrupt},
		{"15, far too many", block().num(15, 4).num(63, 6).bytes(), "", api.ErrCorrupt},
		{"13 at the beginning of the distances", block().num(13, 4).bytes(), "", api.ErrCorrupt},
		{"13 at the beginning of the letters", stream(0).coded(codedLast, 2).num(1, 1).num(13, 4).bytes(), "", api.ErrCorrupt},
	})
	letters := stream(0).coded(codedLast, 2).num(1, 1)
	for range 3 {
		letters.num(15, 4).num(63, 6)
	}
	// 222 lengths by now: the letters 222 and 223 come next.
	letters.num(1, 4).num(1, 4).num(15, 4).num(37, 6).distances(0).bits("01")
	check(t, []row{{"15, 74 times", letters.bytes(), "\xde\xdf", api.OK}})
}

func TestSums(t *testing.T) {
	block := func(lengths []int) *builder { return stream(0).coded(codedLast, 2).letters('a').full(lengths, true) }
	check(t, []row{
		{"1", block(lengthsOf(16, 3, 1, 15, 1)).bytes(), "aa", api.OK},
		{"1 by 12 bits", block([]int{1, 2, 3, 4, 5, 6, 7, 8, 9, 10, 11, 12, 12, 0, 0, 0}).bytes(), "aa", api.OK},
		{"0", block(lengthsOf(16)).bytes(), "", api.ErrCorrupt},
		{"1/2", block(lengthsOf(16, 3, 1)).bytes(), "", api.ErrCorrupt},
		{"3/2", block(lengthsOf(16, 3, 1, 4, 1, 15, 1)).bytes(), "", api.ErrCorrupt},
		{"2", block([]int{3, 3, 3, 3, 3, 3, 3, 3, 3, 3, 3, 3, 3, 3, 3, 3}).bytes(), "", api.ErrCorrupt},
		{"1 less 1/4096", block([]int{1, 2, 3, 4, 5, 6, 7, 8, 9, 10, 11, 12, 0, 0, 0, 0}).bytes(), "", api.ErrCorrupt},
		{"1 and 1/4096", block([]int{1, 2, 3, 4, 5, 6, 7, 8, 9, 10, 11, 12, 12, 12, 0, 0}).bytes(), "", api.ErrCorrupt},
		{"letters: 1/2", stream(0).coded(codedLast, 2).full(lengthsOf(272, 'a', 1), false).bytes(), "", api.ErrCorrupt},
		{"letters: 3/2", stream(0).coded(codedLast, 2).full(lengthsOf(272, 'a', 1, 'b', 1, 'c', 1), false).bytes(), "", api.ErrCorrupt},
		{"letters: 0", stream(0).coded(codedLast, 2).full(lengthsOf(272), false).bytes(), "", api.ErrCorrupt},
	})
	// Too great a sum is no fault before the last length.
	s := block([]int{3, 3, 3, 3, 3, 3, 3, 3, 3, 3, 3, 3, 3, 3, 3, 3}).bytes()
	for n := range len(s) - 1 {
		check(t, []row{{"2, cut", s[:n], "", api.ErrTruncated}})
	}
}

// TestNoBits: commands that take no bits come out with the end of the codes, ahead of all that follows.
func TestNoBits(t *testing.T) {
	check(t, []row{
		{"letters", stream(0).coded(coded, 3).letters('x').distances(0).num(6, 3).bytes(), "xxx", api.ErrTruncated},
		{"copies", stream(0).stored(stored, "xyz").coded(coded, 9).letters(256).distances(2).bytes(), "xyzxyzyzyyyy", api.ErrTruncated},
		{"copies that do not fit", stream(0).stored(stored, "xyz").coded(coded, 10).letters(256).distances(0).bytes(), "xyzzzzzzzzzz", api.ErrCorrupt},
		{"copies with nothing before them", stream(0).coded(coded, 9).letters(256).distances(0).bytes(), "", api.ErrCorrupt},
		{"copies, the distance symbol 4", stream(0).stored(stored, "xyz").coded(codedLast, 10).letters(263).distances(4).bytes(), "xyz" + strings.Repeat("z", 10), api.OK},
		{"bits more of the length alone", stream(0).stored(stored, "x").coded(codedLast, 24).letters(264).distances(0).bits("1").bits("1").bytes(), strings.Repeat("x", 25), api.OK},
	})
}

func TestLengths(t *testing.T) {
	least := []int{3, 4, 5, 6, 7, 8, 9, 10, 11, 13, 17, 25, 41, 73, 137, 265, 521}
	for k := range 16 {
		n := max(0, k-7)
		for _, more := range []int{0, 1<<n - 1} {
			length := least[k] + more
			if more > 0 && length != least[k+1]-1 {
				t.Fatalf("symbol %d: %d is not the greatest length", 256+k, length)
			}
			copied := func(size int) string {
				return stream(0).coded(codedLast, size).letters('x', 256+k).distances(0).bits("01").num(more, n).bytes()
			}
			out := strings.Repeat("x", 1+length)
			check(t, []row{
				{"a copy", copied(1 + length), out, api.OK},
				{"a copy, one byte too long", copied(length), "x", api.ErrCorrupt},
			})
		}
	}
}

// far writes the number of a distance symbol's more bits, and answers the symbol.
func far(distance int) (symbol int, more int, n int) {
	n = bits.Len(uint(distance)) - 1
	return 4 + n, distance - 1<<n, n
}

// text: bytes that repeat at no small distance.
func text(n int) string {
	b := make([]byte, n)
	for i := range b {
		b[i] = byte(i*i>>3 ^ i*7 ^ i>>8)
	}
	return string(b)
}

func TestDistances(t *testing.T) {
	s := text(4096)
	for _, d := range []int{1, 2, 3, 4, 7, 8, 15, 16, 31, 32, 63, 64, 127, 128, 255, 256, 511, 512, 1023, 1024, 2047, 2048, 4095} {
		symbol, more, n := far(d)
		copied := func(w int, have int) string {
			return stream(w).stored(stored, s[:have]).coded(codedLast, 5).letters(258).distances(symbol).num(more, n).bytes()
		}
		out := s[:4096]
		for range 5 {
			out += out[len(out)-d : len(out)-d+1]
		}
		check(t, []row{{"a distance", copied(8, 4096), out, api.OK}})
		out = s[:d]
		for range 5 {
			out += out[len(out)-d : len(out)-d+1]
		}
		check(t, []row{{"a distance to the first byte", copied(8, d), out, api.OK}})
		if d > 1 {
			check(t, []row{{"a distance beyond the first byte", copied(8, d-1), s[:d-1], api.ErrCorrupt}})
		}
		for w := range 9 {
			e := api.OK
			if d > 16<<w {
				e = api.ErrCorrupt
			}
			if _, f := wring.Decode(copied(w, 4096)); f != e {
				t.Errorf("P2: distance %d, window %d: %d, want %d", d, 16<<w, f, e)
			}
		}
	}
}

// TestWindowEdges: the window itself is near enough, one byte more is not.
func TestWindowEdges(t *testing.T) {
	s := text(4096)
	for w := range 8 {
		for beyond, e := range []api.Errno{api.OK, api.ErrCorrupt} {
			d := 16<<w + beyond
			symbol, more, n := far(d)
			out := s
			if e == api.OK {
				out += s[4096-d : 4096-d+3]
			}
			check(t, []row{{"at the window", stream(w).stored(stored, s).coded(codedLast, 3).letters(256).distances(symbol).num(more, n).bytes(), out, e}})
		}
	}
}

// TestLongAgo: what came out is still there after many blocks, of other kinds too.
func TestLongAgo(t *testing.T) {
	w := stream(8)
	all := ""
	for i := range 12 {
		s := text(4096)[i*100 : i*100+997]
		w.stored(stored, s).note(note, "between").empty(empty)
		all += s
	}
	symbol, more, n := far(4095)
	w.coded(codedLast, 520).letters(271).distances(symbol).num(255, 8).num(more, n)
	all += all[len(all)-4095 : len(all)-4095+520]
	check(t, []row{{"4095 bytes ago", w.bytes(), all, api.OK}})
}

func TestCopies(t *testing.T) {
	check(t, []row{
		{"over itself, by 2", stream(0).coded(codedLast, 9).letters('a', 'b', 260).distances(1).bits("0" + "10" + "11").bytes(), "ababababa", api.OK},
		{"over itself, by 3", stream(0).coded(codedLast, 10).letters('a', 'b', 'c', 260).distances(2).bits("00" + "01" + "10" + "11").bytes(), "abcabcabca", api.OK},
		{"of a block before", stream(0).stored(stored, "abcdefgh").coded(codedLast, 4).letters(257).distances(7).num(0, 3).bytes(), "abcdefghabcd", api.OK},
		{"a note does not come out", stream(0).stored(stored, "ab").note(note, "xy").coded(codedLast, 4).letters(257).distances(1).bytes(), "ababab", api.OK},
		{"a note is nothing to reach", stream(0).stored(stored, "ab").note(note, "xy").coded(codedLast, 4).letters(257).distances(2).bytes(), "ab", api.ErrCorrupt},
		{"at the beginning", stream(0).coded(codedLast, 4).letters(257).distances(0).bytes(), "", api.ErrCorrupt},
		{"a letter behind a copy that leaves one", stream(0).coded(codedLast, 5).letters('a', 'b', 256).distances(0).bits("0" + "11" + "10").bytes(), "aaaab", api.OK},
		{"a copy where the block has 2 left", stream(0).coded(codedLast, 3).letters('a', 'b', 256).distances(0).bits("0" + "11").bytes(), "a", api.ErrCorrupt},
	})
	// The fault of a copy waits for all bits of the copy: of the length, though that is too long, and of the distance.
	check(t, []row{
		{"too long, its bits more cut", stream(0).coded(codedLast, 3).letters('x', 271).distances(0).bits("01").bytes(), "x", api.ErrTruncated},
		{"too long, the distance cut", stream(0).coded(codedLast, 3).letters(271).distances(4, 15).num(0, 8).bytes()[:6], "", api.ErrTruncated},
		{"too far, its bits more cut", stream(0).stored(stored, "x").coded(codedLast, 3).letters(256).distances(15).num(0, 3).bytes(), "x", api.ErrTruncated},
		{"too far, all there", stream(0).stored(stored, "x").coded(codedLast, 3).letters(256).distances(15).num(0, 11).bytes(), "x", api.ErrCorrupt},
	})
}

// TestRecent: the last distances move on, may stand there twice, and are the stream's.
func TestRecent(t *testing.T) {
	// d 0 to 3 by 2 bits each, copies of 3.
	near := func(kind int, size int, rows string) func(w *builder) *builder {
		return func(w *builder) *builder { return w.coded(kind, size).letters(256).distances(0, 1, 2, 3).bits(rows) }
	}
	for _, c := range []struct {
		symbols   []int
		distances []int
	}{
		{[]int{0, 1}, []int{1, 2}},
		{[]int{1, 1, 1, 0}, []int{2, 1, 2, 2}},
		{[]int{3, 3, 3, 3, 3}, []int{4, 3, 2, 1, 4}},
		{[]int{2, 3, 3, 1}, []int{3, 3, 2, 3}},
		{[]int{2, 2, 3, 3}, []int{3, 2, 2, 1}},
		{[]int{0, 0, 3, 0, 1}, []int{1, 1, 4, 4, 1}},
	} {
		want := "abcdefgh"
		one := stream(1).stored(stored, want)
		many := stream(1).stored(stored, want)
		rows := ""
		for i, s := range c.symbols {
			bits := []string{"00", "01", "10", "11"}[s]
			rows += bits
			near(coded, 3, bits)(many).note(note, "-")
			for range 3 {
				want += want[len(want)-c.distances[i] : len(want)-c.distances[i]+1]
			}
		}
		near(codedLast, 3*len(c.symbols), rows)(one)
		check(t, []row{
			{"the last distances", one.bytes(), want, api.OK},
			{"the last distances, over blocks", many.empty(emptyLast).bytes(), want, api.OK},
		})
	}
	// A distance that is told by its number becomes the last one, also if it stands there.
	w := stream(1).stored(stored, "abcdefgh").coded(codedLast, 15).letters(256).distances(0, 2, 3, 6)
	w.bits("11").num(1, 2).bits("11").num(1, 2).bits("00").bits("10").bits("01")
	// 1 2 3 4; 5 1 2 3; 5 5 1 2; (0: 5); (3: 2) 2 5 5 1; (2: 5)
	want := "abcdefgh"
	for _, d := range []int{5, 5, 5, 2, 5} {
		for range 3 {
			want += want[len(want)-d : len(want)-d+1]
		}
	}
	check(t, []row{{"distances by number", w.bytes(), want, api.OK}})
}

// TestLongStrings: Decode ends, and does not take too long.
func TestLongStrings(t *testing.T) {
	for _, c := range []row{
		{"empty blocks", strings.Repeat("\x00", 1<<20), "", api.ErrTruncated},
		{"empty blocks and the end", strings.Repeat("\x00", 1<<20) + "\x01", "", api.OK},
		{"bits 1", strings.Repeat("\xff", 1<<20), "", api.ErrCorrupt},
		{"much behind the end", "\x10" + strings.Repeat("\x00", 1<<20), "", api.ErrTrailing},
	} {
		check(t, []row{c})
	}
	w := stream(0)
	for range 500 {
		w.coded(coded, 4096).letters('x').distances(0)
	}
	if out, e := wring.Decode(w.empty(emptyLast).bytes()); out != strings.Repeat("x", 500*4096) || e != api.OK {
		t.Errorf("P2: 500 coded blocks: %d bytes, %d", len(out), e)
	}
}
