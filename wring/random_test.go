package wring_test

import (
	"math/rand"
	"strings"
	"testing"

	"wring/api"
	"wring/wring"
)

// maker makes streams by chance, and knows what comes out of them.
type maker struct {
	builder
	r      *rand.Rand
	window int
	out    []byte
	recent [4]int
}

// randomStream makes a stream that is right, and what comes out of it.
func randomStream(r *rand.Rand) (string, string) {
	w := r.Intn(9)
	m := &maker{r: r, window: 16 << w, recent: [4]int{1, 2, 3, 4}}
	m.num(w, 4)
	blocks := r.Intn(5)
	for range blocks {
		m.block(0)
	}
	m.block(1)
	m.fill()
	return m.bytes(), string(m.out)
}

func (m *maker) text(n int) string {
	b := make([]byte, n)
	m.r.Read(b)
	return string(b)
}

func (m *maker) block(last int) {
	switch m.r.Intn(6) {
	case 0:
		m.builder.empty(empty + last)
	case 1:
		s := m.text(1 + m.r.Intn(60))
		m.builder.stored(stored+last, s)
		m.out = append(m.out, s...)
	case 2:
		m.builder.note(note+last, m.text(m.r.Intn(20)))
	default:
		m.coded(coded + last)
	}
}

// coded writes the commands aside first, since their bytes are to be counted ahead of them.
func (m *maker) coded(kind int) {
	letters, letterBits := m.code(272, 9)
	distances, distanceBits := m.code(16, 4)
	aside := &builder{}
	before := len(m.out)
	for range 1 + m.r.Intn(40) {
		m.command(aside, letters, distances, 4096-(len(m.out)-before))
	}
	if len(m.out) == before {
		m.builder.empty(kind - coded) // only copies were to be had, and none fits
		return
	}
	m.builder.coded(kind, len(m.out)-before)
	for _, part := range []*builder{letterBits, distanceBits, aside} {
		for i := range part.n {
			m.num(int(part.b[i/8])>>(i%8), 1)
		}
	}
}

// code: rows of bits by symbols, and what tells the code.
func (m *maker) code(size int, width int) (map[int]string, *builder) {
	w := &builder{}
	n := 1 + m.r.Intn(4)
	symbols := m.r.Perm(size)
	lengths := make([]int, size)
	if m.r.Intn(2) == 0 {
		var used []int
		for s := range size {
			for _, v := range symbols[:n] {
				if v == s {
					used = append(used, s)
				}
			}
		}
		for i, s := range used {
			lengths[s] = [][]int{{0}, {1, 1}, {1, 2, 2}, {2, 2, 2, 2}}[n-1][i]
		}
		w.simple(width, used)
		if n == 1 {
			return map[int]string{used[0]: ""}, w
		}
		return rows(lengths), w
	}
	// Leaves of a tree that are split, one by one, leave no bits without a symbol.
	leaves := []int{1, 1}
	for range m.r.Intn(size - 1) {
		i := m.r.Intn(len(leaves))
		if leaves[i] < 12 {
			leaves[i]++
			leaves = append(leaves, leaves[i])
		}
	}
	for i, n := range leaves {
		lengths[symbols[i]] = n
	}
	w.full(lengths, m.r.Intn(2) == 0)
	return rows(lengths), w
}

func rows(lengths []int) map[int]string {
	l := map[int]int{}
	for s, n := range lengths {
		if n > 0 {
			l[s] = n
		}
	}
	rows := map[int]string{}
	for row, s := range canonical(l) {
		rows[s] = row
	}
	return rows
}

func (m *maker) pick(code map[int]string) int {
	i := m.r.Intn(len(code))
	for s := range 272 {
		if _, ok := code[s]; ok {
			if i == 0 {
				return s
			}
			i--
		}
	}
	return 0
}

// command writes a command, if the one that chance names is right here.
func (m *maker) command(w *builder, letters map[int]string, distances map[int]string, left int) {
	s := m.pick(letters)
	if s < 256 {
		if left > 0 {
			w.bits(letters[s])
			m.out = append(m.out, byte(s))
		}
		return
	}
	k := s - 256
	bits := max(0, k-7)
	more := m.r.Intn(1 << bits)
	length := []int{3, 4, 5, 6, 7, 8, 9, 10, 11, 13, 17, 25, 41, 73, 137, 265}[k] + more
	d := m.pick(distances)
	farBits := max(0, d-4)
	farMore := m.r.Intn(1 << farBits)
	distance := 1<<farBits + farMore
	if d < 4 {
		distance = m.recent[d]
	}
	if length > left || distance > m.window || distance > len(m.out) {
		return
	}
	w.bits(letters[s]).num(more, bits).bits(distances[d]).num(farMore, farBits)
	if d > 0 {
		m.recent = [4]int{distance, m.recent[0], m.recent[1], m.recent[2]}
	}
	for range length {
		m.out = append(m.out, m.out[len(m.out)-distance])
	}
}

// same tests that Decode answers what the model answers, twice.
func same(t *testing.T, s string) {
	t.Helper()
	want, e := modelDecode(s)
	for range 2 {
		if out, f := wring.Decode(s); out != want || f != e {
			t.Fatalf("Decode(%x) = %x, %d, want %x, %d", s, out, f, want, e)
		}
	}
}

// TestRandomStreams: what was laid into a stream comes out of it.
func TestRandomStreams(t *testing.T) {
	r := rand.New(rand.NewSource(1))
	for range 1000 {
		s, want := randomStream(r)
		if out, e := wring.Decode(s); out != want || e != api.OK {
			t.Fatalf("P2: Decode(%x) = %x, %d, want %x, OK", s, out, e, want)
		}
		if out, e := wring.Decode(s + "\x00"); out != want || e != api.ErrTrailing {
			t.Fatalf("P2: Decode(%x and 00) = %x, %d, want %x, ErrTrailing", s, out, e, want)
		}
	}
}

// TestRandomCuts: a part of a stream is truncated wherever it is cut, and gives a part of what comes out.
func TestRandomCuts(t *testing.T) {
	r := rand.New(rand.NewSource(2))
	for range 100 {
		s, want := randomStream(r)
		before := ""
		for n := range len(s) {
			out, e := wring.Decode(s[:n])
			if e != api.ErrTruncated || !strings.HasPrefix(want, out) || !strings.HasPrefix(out, before) {
				t.Fatalf("P2: Decode(%x) = %x, %d, want ErrTruncated and a part of %x", s[:n], out, e, want)
			}
			before = out
			same(t, s[:n])
		}
	}
}

// spoil turns bits of a stream, puts bytes in and takes some out.
func spoil(r *rand.Rand, s string) string {
	b := []byte(s)
	for range 1 + r.Intn(3) {
		i := r.Intn(len(b))
		switch r.Intn(4) {
		case 0:
			b = append(b[:i], append([]byte{byte(r.Intn(256))}, b[i:]...)...)
		case 1:
			b = append(b[:i:i], b[min(i+1, len(b)-1):]...)
		default:
			b[i] ^= 1 << r.Intn(8)
		}
	}
	return string(b)
}

// TestRandomFaults: streams with bits turned, bytes put in or taken out, cut or not.
func TestRandomFaults(t *testing.T) {
	r := rand.New(rand.NewSource(3))
	for range 4000 {
		s, _ := randomStream(r)
		s = spoil(r, s)
		same(t, s)
		same(t, s[:r.Intn(len(s)+1)])
	}
}

// TestAnyBytes: Decode ends at any bytes, does not panic, and answers the same again.
func TestAnyBytes(t *testing.T) {
	same(t, "")
	for a := range 256 {
		same(t, string([]byte{byte(a)}))
		for b := range 256 {
			same(t, string([]byte{byte(a), byte(b)}))
		}
	}
	r := rand.New(rand.NewSource(4))
	for range 4000 {
		b := make([]byte, r.Intn(200))
		r.Read(b)
		if len(b) > 0 && r.Intn(4) > 0 {
			// The beginning of a coded block: by chance alone few strings come as far.
			b[0] = byte(r.Intn(9)) | 4<<4 | b[0]&0x80
		}
		same(t, string(b))
	}
}

// TestMixed: what was read before changes nothing.
func TestMixed(t *testing.T) {
	r := rand.New(rand.NewSource(5))
	var streams, outs []string
	for range 50 {
		s, want := randomStream(r)
		streams = append(streams, s)
		outs = append(outs, want)
	}
	for range 500 {
		i := r.Intn(len(streams))
		wring.Decode(streams[i][:r.Intn(len(streams[i]))])
		j := r.Intn(len(streams))
		if out, e := wring.Decode(streams[j]); out != outs[j] || e != api.OK {
			t.Fatalf("P1: Decode(%x) = %x, %d, want %x, OK", streams[j], out, e, outs[j])
		}
	}
}

func FuzzDecode(f *testing.F) {
	r := rand.New(rand.NewSource(6))
	for range 20 {
		s, _ := randomStream(r)
		f.Add(s)
	}
	f.Fuzz(func(t *testing.T, s string) { same(t, s) })
}
