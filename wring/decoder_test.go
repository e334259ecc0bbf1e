package wring_test

import (
	"math/rand"
	"runtime"
	"strings"
	"testing"

	"wring/api"
	"wring/wring"
)

// feed gives a decoder the pieces, one by one, and answers what it answered.
func feed(x *wring.Decoder, pieces []string) []string {
	var outs []string
	for _, p := range pieces {
		outs = append(outs, x.Feed(p))
	}
	return outs
}

// piecesOf cuts s into pieces of one size (the last one may be shorter).
func piecesOf(s string, size int) []string {
	var pieces []string
	for i := 0; i < len(s); i += size {
		pieces = append(pieces, s[i:min(i+size, len(s))])
	}
	return pieces
}

// checkClosed tests that a decoder is closed: nothing comes out of it, and it goes on to say e.
func checkClosed(t *testing.T, x *wring.Decoder, rest string, e api.Errno) {
	t.Helper()
	for _, p := range []string{rest, "", "\x10", "\xff\xff", rest} {
		if out := x.Feed(p); out != "" {
			t.Fatalf("P3: behind Close: Feed(%x) = %x, want nothing", p, out)
		}
		if f := x.Close(); f != e {
			t.Fatalf("P3: Close again, behind Feed(%x): %d, want %d", p, f, e)
		}
	}
}

// checkPieces feeds s in several sizes of pieces: all together is to be what Decode answers.
func checkPieces(t *testing.T, s string, want string, e api.Errno) {
	t.Helper()
	for _, size := range []int{1, 2, 3, 7, 64, 4096, 1 << 30} {
		x := wring.NewDecoder()
		out := strings.Join(feed(x, piecesOf(s, size)), "")
		f := x.Close()
		if out != want || f != e {
			t.Fatalf("P3: %d bytes (%.80x) in pieces of %d: %.80q, %d, want %.80q, %d", len(s), s, size, out, f, want, e)
		}
		checkClosed(t, x, s, e)
	}
}

// TestFeedExamples: what the document says of pieces.
func TestFeedExamples(t *testing.T) {
	for _, c := range []struct {
		pieces []string
		outs   []string
		e      api.Errno
	}{
		{[]string{"d0 03 60 18 31 03 11", "1a"}, []string{"", "abababab"}, api.OK},
		{[]string{"30 01 00", "61", "62 63"}, []string{"", "a", "bc"}, api.OK},
		{[]string{"30 01 00", "61", "62"}, []string{"", "a", "b"}, api.ErrTruncated},
		{[]string{"", "30 01 00", "", "", "61", "62 63", ""}, []string{"", "", "", "", "a", "bc", ""}, api.OK},
		{[]string{"30 01 00 61", "62 63 00", "61"}, []string{"a", "bc", ""}, api.ErrTrailing},
		{[]string{"d0 03 60 18 31 03 21", "1a", "1a"}, []string{"", "ab", ""}, api.ErrCorrupt},
		{[]string{"90", "10"}, []string{"", ""}, api.ErrCorrupt},
		{[]string{"10"}, []string{""}, api.OK},
		{[]string{"10", ""}, []string{"", ""}, api.OK},
		{[]string{"10", "00"}, []string{"", ""}, api.ErrTrailing},
		{[]string{""}, []string{""}, api.ErrTruncated},
		{nil, nil, api.ErrTruncated},
	} {
		x := wring.NewDecoder()
		for i, p := range c.pieces {
			if out := x.Feed(bytesOf(t, p)); out != c.outs[i] {
				t.Errorf("P3: %q, piece %d: %q, want %q", c.pieces, i, out, c.outs[i])
			}
		}
		if e := x.Close(); e != c.e {
			t.Errorf("P3: %q: Close() = %d, want %d", c.pieces, e, c.e)
		}
		checkClosed(t, x, "\x62\x63", c.e)
	}
}

// TestFeedSoon: a byte lets out all that its bits complete, and nothing that wants a later byte.
func TestFeedSoon(t *testing.T) {
	deep := lengthsOf(272, 'l', 12, 'k', 12, 'j', 11, 'i', 10, 'h', 9, 'g', 8, 'f', 7, 'e', 6, 'd', 5, 'c', 4, 'b', 3, 'a', 2, 'z', 1)
	for _, c := range []struct {
		why  string
		s    string
		from int // the first byte that is looked at
		outs []string
	}{
		{"stored behind a note", stream(0).note(note, "no").stored(stored, "ab").stored(storedLast, "c").bytes(), 4, []string{"", "", "a", "b", "", "", "c"}},
		{"letters of no bits, with the codes", stream(0).coded(coded, 3).letters('x').distances(0).stored(storedLast, "y").bytes(), 3, []string{"", "xxx", "", "", "y"}},
		{"letters of no bits, the codes end with a byte", stream(0).coded(codedLast, 3).letters('x').full(lengthsOf(16, 0, 1, 1, 1), true).bytes(), 10, []string{"", "xxx"}},
		{"letters of 1 bit", stream(0).coded(codedLast, 20).letters('a', 'b').distances(0).bits(strings.Repeat("01", 10)).bytes(), 4, []string{"", "a", "babababa", "babababa", "bab"}},
		{"letters of 2 bits", stream(0).coded(codedLast, 8).letters('a', 'b', 'c', 'd').distances(0).bits(strings.Repeat("00011011", 2)).bytes(), 7, []string{"", "abc", "dabc", "d"}},
		{"a letter of 12 bits", stream(0).coded(codedLast, 3).full(deep, false).distances(0).bits("0" + strings.Repeat("1", 12) + "0").bytes(), 25, []string{"", "z", "l", "z"}},
		{"a copy, whole", stream(0).stored(stored, "x").coded(codedLast, 520).letters(271).distances(4).num(255, 8).bytes(), 8, []string{"", strings.Repeat("x", 520)}},
		{"a copy, the bits more of its distance", stream(0).stored(stored, "abcdefgh").coded(codedLast, 3).letters(256).distances(7).num(0, 3).bytes(), 15, []string{"abc"}},
	} {
		pieces := piecesOf(c.s, 1)
		if len(pieces) != c.from+len(c.outs) {
			t.Errorf("%s: %d bytes, want %d", c.why, len(pieces), c.from+len(c.outs))
			continue
		}
		x := wring.NewDecoder()
		feed(x, pieces[:c.from])
		for i, p := range pieces[c.from:] {
			if out := x.Feed(p); out != c.outs[i] {
				t.Errorf("P3: %s, byte %d: %q, want %q", c.why, c.from+i, out, c.outs[i])
			}
		}
		if e := x.Close(); e != api.OK {
			t.Errorf("P3: %s: Close() = %d", c.why, e)
		}
	}
}

// TestFeedClosed closes decoders everywhere in a stream, ahead of it and behind it.
func TestFeedClosed(t *testing.T) {
	s := stream(0).stored(stored, "abc").note(note, "no").coded(codedLast, 4).letters('x').distances(0).bytes() + "\x00"
	for i := range len(s) + 1 {
		x := wring.NewDecoder()
		out := x.Feed(s[:i])
		want, e := wring.Decode(s[:i])
		if f := x.Close(); out != want || f != e {
			t.Errorf("P3: %x: %q, %d, want %q, %d", s[:i], out, f, want, e)
		}
		checkClosed(t, x, s[i:], e)
	}
}

// cutAtRandom cuts s into pieces, empty ones among them.
func cutAtRandom(r *rand.Rand, s string) []string {
	most := 1 + r.Intn(12)
	if r.Intn(4) == 0 {
		most = 1 + r.Intn(200)
	}
	var pieces []string
	for len(s) > 0 {
		n := min(r.Intn(most+1), len(s))
		pieces = append(pieces, s[:n])
		s = s[n:]
	}
	return pieces
}

// sameInPieces tests each answer: what the model lets out of all that was fed, beyond what came out before.
func sameInPieces(t *testing.T, pieces []string) {
	t.Helper()
	x := wring.NewDecoder()
	all := ""
	before, e := modelDecode("")
	for i, p := range pieces {
		all += p
		want, f := modelDecode(all)
		e = f
		if out := x.Feed(p); before+out != want {
			t.Fatalf("P3: %x, piece %d: %x, want %x", pieces, i, out, want[len(before):])
		}
		before = want
	}
	if f := x.Close(); f != e {
		t.Fatalf("P3: %x: Close() = %d, want %d", pieces, f, e)
	}
	checkClosed(t, x, all, e)
}

func TestFeedRandom(t *testing.T) {
	r := rand.New(rand.NewSource(7))
	for range 500 {
		s, _ := randomStream(r)
		switch r.Intn(4) {
		case 0:
			s += "\x00\x10"
		case 1:
			s = s[:r.Intn(len(s))]
		case 2:
			s = spoil(r, s)
		}
		sameInPieces(t, cutAtRandom(r, s))
	}
}

// TestFeedApart: decoders that are fed in turns, some closed early, and Decode between.
func TestFeedApart(t *testing.T) {
	r := rand.New(rand.NewSource(8))
	type side struct {
		x      *wring.Decoder
		pieces []string
		fed    string
		out    string
	}
	for range 40 {
		var sides []*side
		for range 6 {
			s, _ := randomStream(r)
			if r.Intn(3) == 0 {
				s = spoil(r, s)
			}
			sides = append(sides, &side{x: wring.NewDecoder(), pieces: cutAtRandom(r, s)})
		}
		for range 200 {
			y := sides[r.Intn(len(sides))]
			if len(y.pieces) == 0 || r.Intn(100) == 0 {
				want, e := modelDecode(y.fed)
				if f := y.x.Close(); y.out != want || f != e {
					t.Fatalf("P1: %x: %x, %d, want %x, %d", y.fed, y.out, f, want, e)
				}
				y.pieces = nil
				continue
			}
			y.out += y.x.Feed(y.pieces[0])
			y.fed += y.pieces[0]
			y.pieces = y.pieces[1:]
			wring.Decode(y.fed)
		}
	}
}

// TestFeedLong: small pieces of a long stream, each in its own time, and copies from as far as the window reaches.
func TestFeedLong(t *testing.T) {
	symbol, more, n := far(4095)
	w := stream(8).stored(stored, text(4096))
	want := text(4096)
	for range 2000 {
		w.coded(coded, 520).letters(271).distances(symbol).num(255, 8).num(more, n)
	}
	w.empty(emptyLast)
	b := []byte(want)
	for range 2000 * 520 {
		b = append(b, b[len(b)-4095])
	}
	checkPieces(t, w.bytes(), string(b), api.OK)
	checkPieces(t, strings.Repeat("\x00", 1<<18)+"\x01", "", api.OK)
	checkPieces(t, "\x10"+strings.Repeat("\x00", 1<<18), "", api.ErrTrailing)
	checkPieces(t, "\x90"+strings.Repeat("\x00", 1<<18), "", api.ErrCorrupt)
}

// TestFeedKeepsLittle: a decoder does not keep what was fed nor what came out.
func TestFeedKeepsLittle(t *testing.T) {
	block := new(builder).stored(stored, text(4096)).bytes()
	x := wring.NewDecoder()
	x.Feed("\x08")
	var before, after runtime.MemStats
	runtime.GC()
	runtime.ReadMemStats(&before)
	for range 4096 {
		if out := x.Feed(block); len(out) != 4096 {
			t.Fatalf("P3: a stored block: %d bytes", len(out))
		}
	}
	runtime.GC()
	runtime.ReadMemStats(&after)
	if grown := int64(after.HeapAlloc) - int64(before.HeapAlloc); grown > 4<<20 {
		t.Errorf("16 MiB went through, and %d bytes more are kept", grown)
	}
	if e := x.Close(); e != api.ErrTruncated {
		t.Errorf("P3: Close() = %d", e)
	}
}

func FuzzFeed(f *testing.F) {
	r := rand.New(rand.NewSource(9))
	for range 20 {
		s, _ := randomStream(r)
		f.Add(s, int64(r.Int31()))
	}
	f.Fuzz(func(t *testing.T, s string, seed int64) {
		sameInPieces(t, cutAtRandom(rand.New(rand.NewSource(seed)), s))
	})
}
