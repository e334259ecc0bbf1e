package wring_test

import (
	"bytes"
	"math"
	"math/rand"
	"runtime"
	"slices"
	"strings"
	"testing"

	"wring/api"
	"wring/wring"
)

// encoding is an encoder, and what was asked of it and answered so far.
type encoding struct {
	t       *testing.T
	x       *wring.Encoder
	window  int
	level   int
	out     []byte
	plain   []byte
	notes   []string
	flushes int
}

func begin(t *testing.T, window int, level int) *encoding {
	t.Helper()
	x, e := wring.NewEncoder(window, level)
	if x == nil || e != api.OK {
		t.Fatalf("P4: NewEncoder(%d, %d): %d", window, level, e)
	}
	return &encoding{t: t, x: x, window: window, level: level}
}

func (c *encoding) took(call string, out string, e api.Errno) string {
	c.t.Helper()
	if e != api.OK {
		c.t.Fatalf("P5: %s: %d", call, e)
	}
	c.out = append(c.out, out...)
	return out
}

func (c *encoding) write(s string) string {
	c.t.Helper()
	out, e := c.x.Write(s)
	c.plain = append(c.plain, s...)
	return c.took("Write", out, e)
}

func (c *encoding) note(s string) string {
	c.t.Helper()
	out, e := c.x.Note(s)
	c.notes = append(c.notes, s)
	return c.took("Note", out, e)
}

// flush tests P7.
func (c *encoding) flush() string {
	c.t.Helper()
	out, e := c.x.Flush()
	c.flushes++
	c.took("Flush", out, e)
	got := wring.NewDecoder().Feed(string(c.out))
	m, f := modelRead(string(c.out))
	if got != string(c.plain) || string(m.out) != got || f != api.ErrTruncated {
		c.t.Fatalf("P7: %d bytes written, behind Flush: %d bytes come out, by the model %d (%d)", len(c.plain), len(got), len(m.out), f)
	}
	if len(m.begins) == 0 || m.begins[len(m.begins)-1] != 8*len(c.out) {
		c.t.Fatalf("P7: behind Flush (%d bytes so far): blocks begin at the bits %v", len(c.out), m.begins)
	}
	return out
}

// finish tests P6, P8 and P9, and that the encoder is done.
func (c *encoding) finish() string {
	c.t.Helper()
	out, e := c.x.Finish()
	c.took("Finish", out, e)
	s := string(c.out)
	got, f := wring.Decode(s)
	if got != string(c.plain) || f != api.OK {
		c.t.Fatalf("P6: %d bytes written, %d come out, %d", len(c.plain), len(got), f)
	}
	m, f := modelRead(s)
	if string(m.out) != got || f != api.OK {
		c.t.Fatalf("P6: %d bytes written, by the model %d come out, %d", len(c.plain), len(m.out), f)
	}
	if m.window != 16<<c.window {
		c.t.Fatalf("P6: the window %d is one of %d bytes", c.window, m.window)
	}
	if !slices.Equal(m.notes, c.notes) {
		c.t.Fatalf("P6: the notes %.80q are %.80q", c.notes, m.notes)
	}
	if most, why := c.most(); len(s) > most {
		c.t.Fatalf("%s: window %d, level %d: %d bytes answered, at most %d (of %d, with %d flushes, %d notes): %.40q", why, c.window, c.level, len(s), most, len(c.plain), c.flushes, len(c.notes), c.plain)
	}
	c.checkDone()
	return out
}

// most tells how many bytes may be answered, and which promise says so.
func (c *encoding) most() (int, string) {
	n := len(c.plain)
	parts := (n+4095)/4096 + c.flushes + len(c.notes)
	rest := len(strings.Join(c.notes, "")) + 8
	most, why := n+6*parts+rest, "P8"
	p := period(c.plain)
	if c.level > 0 && p == 1 && 12*parts+rest < most {
		most, why = 12*parts+rest, "P9"
	}
	if c.level > 1 && p > 0 && 128*parts+rest < most {
		most, why = 128*parts+rest, "P9"
	}
	return most, why
}

// period answers the least p of P9 from 1 to 16; 0, if there is none.
func period(s []byte) int {
	for p := 1; p <= 16; p++ {
		if len(s) <= p || bytes.Equal(s[p:], s[:len(s)-p]) {
			return p
		}
	}
	return 0
}

// checkDone tests what is said behind Finish, in some orders of the calls.
func (c *encoding) checkDone() {
	c.t.Helper()
	for i := range 8 {
		var out string
		var e api.Errno
		switch i % 7 {
		case 0:
			out, e = c.x.Finish()
		case 1:
			out, e = c.x.Write("more")
		case 2:
			out, e = c.x.Flush()
		case 3:
			out, e = c.x.Note("n")
		case 4:
			out, e = c.x.Note(strings.Repeat("n", 256))
		case 5:
			out, e = c.x.Write(text(5000))
		case 6:
			out, e = c.x.Write("")
		}
		if out != "" || e != api.ErrDone {
			c.t.Fatalf("P5: behind Finish, call %d: %x, %d, want nothing and ErrDone", i, out, e)
		}
	}
}

func TestNewEncoder(t *testing.T) {
	edges := []int{math.MinInt, math.MinInt32, -4096, -9, -3, -2, -1, 0, 1, 2, 3, 4, 5, 6, 7, 8, 9, 10, 15, 16, 256, 1 << 32, math.MaxInt32, math.MaxInt}
	for _, w := range edges {
		for _, l := range edges {
			want := api.ErrParam
			if w >= 0 && w <= 8 && l >= 0 && l <= 2 {
				want = api.OK
			}
			if x, e := wring.NewEncoder(w, l); e != want || (x != nil) != (want == api.OK) {
				t.Errorf("P4: NewEncoder(%d, %d): %v, %d, want %d", w, l, x != nil, e, want)
			}
		}
	}
}

// plainTexts: of many kinds; the sizes are those about blocks and windows.
func plainTexts() []string {
	r := rand.New(rand.NewSource(20))
	any := make([]byte, 3*4096+100)
	r.Read(any)
	few := make([]byte, 6000)
	for i := range few {
		few[i] = "aaaaaaabbbcd"[r.Intn(12)]
	}
	every := make([]byte, 256)
	for i := range every {
		every[i] = byte(i)
	}
	all := []string{"\x00", "\xff", "\x01", "\x10", string(every), string(few), strings.Repeat("ab", 3000), strings.Repeat("come again ", 900), "\x10" + strings.Repeat("\x00", 5000), strings.Repeat(string(any[:300]), 20)}
	for _, n := range []int{0, 1, 2, 3, 15, 16, 17, 255, 256, 257, 4095, 4096, 4097, 8191, 8192, 8193, 3 * 4096} {
		all = append(all, string(any[:n]), strings.Repeat("z", n), text(n))
	}
	return all
}

// TestEncode writes texts whole and in pieces.
func TestEncode(t *testing.T) {
	for w := range 9 {
		for l := range 3 {
			for _, s := range plainTexts() {
				for _, size := range []int{1 << 30, 4096, 4095, 1000, 1} {
					if size == 1 && w%4 > 0 {
						continue
					}
					c := begin(t, w, l)
					for _, p := range piecesOf(s, size) {
						c.write(p)
					}
					c.finish()
				}
			}
		}
	}
}

// TestEncodeNothing: streams into which nothing is written.
func TestEncodeNothing(t *testing.T) {
	for w := range 9 {
		for l := range 3 {
			begin(t, w, l).finish()
			c := begin(t, w, l)
			c.write("")
			c.write("")
			c.finish()
			c = begin(t, w, l)
			c.flush()
			c.finish()
			c = begin(t, w, l)
			c.note("")
			c.finish()
			c = begin(t, w, l)
			c.note("a note")
			c.flush()
			c.flush()
			c.note("")
			c.note(text(255))
			c.finish()
		}
	}
}

// TestEncodeFlush flushes at all the places where something may be different.
func TestEncodeFlush(t *testing.T) {
	for w := range 9 {
		for l := range 3 {
			c := begin(t, w, l)
			c.flush()
			c.flush()
			for _, n := range []int{1, 0, 2, 4095, 1, 4096, 4097, 4096, 0, 8192, 8191, 1, 16} {
				c.write(text(n))
				c.flush()
				if n%2 == 0 {
					c.flush()
				}
				if n > 4000 {
					c.note(text(n % 256))
					c.flush()
				}
			}
			c.finish()
			c = begin(t, w, l)
			c.write("x")
			c.flush()
			c.finish()
		}
	}
}

// TestEncodeFlushes: a flush, or a note, behind each byte, is where P8 asks most.
func TestEncodeFlushes(t *testing.T) {
	for l := range 3 {
		for _, each := range []int{1, 2, 3} {
			c := begin(t, 8, l)
			for i := range 300 {
				c.write(text(300)[i : i+1])
				if each&1 > 0 {
					c.flush()
				}
				if each&2 > 0 {
					c.note("")
				}
			}
			c.finish()
		}
	}
}

// TestEncodeNotes: notes of all sizes, ahead of, between and behind what is written.
func TestEncodeNotes(t *testing.T) {
	for l := range 3 {
		c := begin(t, 2, l)
		for n := range 256 {
			c.note(text(n))
		}
		c.write(text(5000))
		for n := range 256 {
			c.write(text(n % 7))
			c.note(strings.Repeat("\xff", n))
		}
		c.finish()
	}
}

// TestEncodeLongNote: too long a note changes nothing: all goes on as if it had not been asked for.
func TestEncodeLongNote(t *testing.T) {
	for l := range 3 {
		var outs []string
		for _, n := range []int{0, 256, 257, 511, 512, 4096, 1 << 20} {
			c := begin(t, 3, l)
			var answers []string
			long := func() {
				if n == 0 {
					return
				}
				if out, e := c.x.Note(strings.Repeat("n", n)); out != "" || e != api.ErrLong {
					t.Fatalf("P5: a note of %d bytes: %x, %d, want nothing and ErrLong", n, out, e)
				}
			}
			long()
			answers = append(answers, c.write(text(3000)))
			long()
			answers = append(answers, c.write(text(3000)))
			long()
			answers = append(answers, c.note(text(255)))
			long()
			answers = append(answers, c.flush())
			long()
			long()
			answers = append(answers, c.finish())
			if outs == nil {
				outs = answers
			}
			if !slices.Equal(answers, outs) {
				t.Errorf("P5: a note of %d bytes changes what is answered", n)
			}
		}
	}
}

// act does to c what chance says.
func act(r *rand.Rand, c *encoding, all []string) string {
	switch r.Intn(8) {
	case 0:
		return c.flush()
	case 1:
		return c.note(text(r.Intn(256)))
	case 2:
		return c.write("")
	case 3:
		return c.write(all[r.Intn(len(all))])
	}
	s := all[r.Intn(len(all))]
	return c.write(s[:r.Intn(len(s)+1)])
}

// TestEncodeRandom: whatever is called, a part of the stream gives a part of what was written, and never anything wrong.
func TestEncodeRandom(t *testing.T) {
	r := rand.New(rand.NewSource(21))
	all := plainTexts()
	for range 300 {
		c := begin(t, r.Intn(9), r.Intn(3))
		d := wring.NewDecoder()
		got := ""
		for range r.Intn(15) {
			got += d.Feed(act(r, c, all))
			if !strings.HasPrefix(string(c.plain), got) {
				t.Fatalf("P5: what comes out so far is not what was written")
			}
		}
		got += d.Feed(c.finish())
		if e := d.Close(); got != string(c.plain) || e != api.OK {
			t.Fatalf("P6: fed answer by answer: %d bytes, %d, want %d", len(got), e, len(c.plain))
		}
	}
}

// TestEncodeApart: encoders that are used in turns answer what they answer alone.
func TestEncodeApart(t *testing.T) {
	all := plainTexts()
	alone := func(seed int64, w int, l int) []string {
		r := rand.New(rand.NewSource(seed))
		c := begin(t, w, l)
		var answers []string
		for range 12 {
			answers = append(answers, act(r, c, all))
		}
		return append(answers, c.finish())
	}
	var want, got [12][]string
	var sides [12]*encoding
	var chances [12]*rand.Rand
	for i := range want {
		w, l := i%9, i%3
		want[i] = alone(int64(i), w, l)
		sides[i] = begin(t, w, l)
		chances[i] = rand.New(rand.NewSource(int64(i)))
	}
	for range 12 {
		for i, c := range sides {
			got[i] = append(got[i], act(chances[i], c, all))
		}
	}
	for i, c := range sides {
		got[i] = append(got[i], c.finish())
		if !slices.Equal(got[i], want[i]) {
			t.Errorf("P1: encoder %d answers otherwise than alone", i)
		}
	}
}

// TestEncodeLong: much at once, and much byte by byte, each in its own time.
func TestEncodeLong(t *testing.T) {
	for l := range 3 {
		c := begin(t, 8, l)
		c.write(strings.Repeat(text(4001), 1000))
		c.finish()
		c = begin(t, 0, l)
		s := strings.Repeat(text(4001), 100)
		for i := range len(s) {
			c.write(s[i : i+1])
		}
		c.finish()
	}
}

// TestEncodeKeepsLittle: an encoder does not keep what went out, and behind Finish it keeps nothing.
func TestEncodeKeepsLittle(t *testing.T) {
	s := strings.Repeat(text(4001), 4000)
	heap := func() int64 {
		var m runtime.MemStats
		runtime.GC()
		runtime.ReadMemStats(&m)
		return int64(m.HeapAlloc)
	}
	for l := range 3 {
		before := heap()
		x, _ := wring.NewEncoder(8, l)
		if _, e := x.Write(s); e != api.OK {
			t.Fatalf("P5: Write: %d", e)
		}
		if grown := heap() - before; grown > 4<<20 {
			t.Errorf("level %d: 16 MB went through, and %d bytes more are kept", l, grown)
		}
		runtime.KeepAlive(x)
	}
	runtime.KeepAlive(s)
	var done []*wring.Encoder
	before := heap()
	for range 1000 {
		x, _ := wring.NewEncoder(8, 2)
		x.Write(s[:3000])
		x.Finish()
		done = append(done, x)
	}
	if grown := heap() - before; grown > 1<<20 {
		t.Errorf("1000 encoders behind Finish keep %d bytes", grown)
	}
	runtime.KeepAlive(done)
}

// FuzzEncode: a byte says what is called, the bytes behind it what with.
func FuzzEncode(f *testing.F) {
	f.Add(0, 0, "\x00abc\x01\x02no\x04z")
	f.Add(8, 2, strings.Repeat("\x00some text", 30))
	f.Fuzz(func(t *testing.T, window int, level int, s string) {
		if window < 0 || window > 8 || level < 0 || level > 2 {
			if x, e := wring.NewEncoder(window, level); x != nil || e != api.ErrParam {
				t.Fatalf("P4: NewEncoder(%d, %d): %d", window, level, e)
			}
			return
		}
		c := begin(t, window, level)
		for len(s) > 1 {
			n := min(int(s[1])%16, len(s)-2)
			arg := s[2 : 2+n]
			switch s[0] % 8 {
			case 0:
				c.flush()
			case 1:
				c.note(arg)
			case 2:
				c.write(strings.Repeat(arg, 300))
			default:
				c.write(arg)
			}
			s = s[2+n:]
		}
		c.finish()
	})
}
