package wring_test

// builder writes streams, bit by bit.
type builder struct {
	b []byte
	n int // bits
}

// bits writes bits that are written down, the first one first.
func (w *builder) bits(s string) *builder {
	for i := range len(s) {
		w.num(int(s[i]-'0'), 1)
	}
	return w
}

func (w *builder) num(v int, n int) *builder {
	for i := range n {
		if w.n%8 == 0 {
			w.b = append(w.b, 0)
		}
		w.b[w.n/8] |= byte(v >> i & 1 << (w.n % 8))
		w.n++
	}
	return w
}

func (w *builder) fill() *builder {
	w.n = 8 * len(w.b)
	return w
}

func (w *builder) text(s string) *builder {
	for i := range len(s) {
		w.num(int(s[i]), 8)
	}
	return w
}

func (w *builder) bytes() string { return string(w.b) }

// stream begins a stream with the window 16 << window.
func stream(window int) *builder { return new(builder).num(window, 4) }

// kinds, with the bit that says LAST.
const (
	empty, emptyLast   = 0, 1
	stored, storedLast = 2, 3
	coded, codedLast   = 4, 5
	note, noteLast     = 6, 7
)

func (w *builder) empty(kind int) *builder {
	w.num(kind, 3)
	return w.fill()
}

func (w *builder) stored(kind int, s string) *builder {
	w.num(kind, 3).num(len(s)-1, 12)
	return w.fill().text(s)
}

func (w *builder) note(kind int, s string) *builder {
	w.num(kind, 3).num(len(s), 8)
	return w.fill().text(s)
}

// coded begins a coded block of so many bytes.
func (w *builder) coded(kind int, size int) *builder { return w.num(kind, 3).num(size-1, 12) }

// letters and distances write simple codes.
func (w *builder) letters(symbols ...int) *builder   { return w.simple(9, symbols) }
func (w *builder) distances(symbols ...int) *builder { return w.simple(4, symbols) }

func (w *builder) simple(width int, symbols []int) *builder {
	w.num(0, 1).num(len(symbols)-1, 2)
	for _, s := range symbols {
		w.num(s, width)
	}
	return w
}

// full writes a full code; repeats are used where they can be, unless plain.
func (w *builder) full(lengths []int, plain bool) *builder {
	w.num(1, 1)
	for i := 0; i < len(lengths); {
		n := 1
		for i+n < len(lengths) && lengths[i+n] == lengths[i] {
			n++
		}
		i += w.repeat(lengths, i, n, plain)
	}
	return w
}

// repeat writes the first of n equal lengths, or more of them, and answers how many.
func (w *builder) repeat(lengths []int, i int, n int, plain bool) int {
	switch {
	case plain || n < 3:
		w.num(lengths[i], 4)
		return 1
	case i > 0 && lengths[i-1] == lengths[i]:
		n = min(n, 6)
		w.num(13, 4).num(n-3, 2)
	case lengths[i] == 0 && n > 10:
		n = min(n, 74)
		w.num(15, 4).num(n-11, 6)
	case lengths[i] == 0:
		w.num(14, 4).num(n-3, 3)
	default:
		w.num(lengths[i], 4)
		return 1
	}
	return n
}

// lengthsOf: the lengths of size symbols, where those that are named have the lengths behind them.
func lengthsOf(size int, pairs ...int) []int {
	l := make([]int, size)
	for i := 0; i+1 < len(pairs); i += 2 {
		l[pairs[i]] = pairs[i+1]
	}
	return l
}
