package wring_test

import (
	"sort"
	"strconv"

	"wring/api"
)

// model reads a stream in another way than the program: over the whole string, with the bits written out.
type model struct {
	s      string
	pos    int // bits
	window int
	out    []byte
	last4  []int
	notes  []string // those that are whole
	begins []int    // the bits where blocks begin, or would begin
	coded  int      // how many blocks are coded ones
	copies int      // how many copies there are
}

// modelDecode is what Decode is measured by.
func modelDecode(s string) (string, api.Errno) {
	m, e := modelRead(s)
	return string(m.out), e
}

// modelRead also tells what Decode does not.
func modelRead(s string) (m *model, e api.Errno) {
	m = &model{s: s, last4: []int{1, 2, 3, 4}}
	defer func() {
		if r := recover(); r != nil {
			e = r.(api.Errno)
		}
	}()
	w := m.number(4)
	m.wrong(w > 8)
	m.window = 1 << (w + 4)
	for !m.block() {
	}
	m.fill()
	if m.pos < 8*len(s) {
		return m, api.ErrTrailing
	}
	return m, api.OK
}

func (m *model) wrong(b bool) {
	if b {
		panic(api.ErrCorrupt)
	}
}

func (m *model) number(n int) int {
	v := 0
	for i := range n {
		if m.pos >= 8*len(m.s) {
			panic(api.ErrTruncated)
		}
		v += int(m.s[m.pos/8]) >> (m.pos % 8) & 1 << i
		m.pos++
	}
	return v
}

func (m *model) fill() {
	for m.pos%8 != 0 {
		m.wrong(m.number(1) == 1)
	}
}

func (m *model) block() bool {
	m.begins = append(m.begins, m.pos)
	last := m.number(1) == 1
	switch m.number(2) {
	case 0:
		if !last {
			m.fill()
		}
	case 1:
		n := m.number(12) + 1
		m.fill()
		for range n {
			m.out = append(m.out, byte(m.number(8)))
		}
	case 2:
		m.coded++
		end := len(m.out) + m.number(12) + 1
		letters := m.code(272, 9)
		distances := m.code(16, 4)
		for len(m.out) < end {
			m.command(letters, distances, end)
		}
	case 3:
		n := m.number(8)
		m.fill()
		var b []byte
		for range n {
			b = append(b, byte(m.number(8)))
		}
		m.notes = append(m.notes, string(b))
	}
	return last
}

// code: the symbols by their bits.
func (m *model) code(size int, width int) map[string]int {
	lengths := map[int]int{}
	if m.number(1) == 0 {
		n := m.number(2) + 1
		before := -1
		for i := range n {
			s := m.number(width)
			m.wrong(s <= before || s >= size)
			lengths[s] = [][]int{{0}, {1, 1}, {1, 2, 2}, {2, 2, 2, 2}}[n-1][i]
			before = s
		}
		if n == 1 {
			return map[string]int{"": before}
		}
		return canonical(lengths)
	}
	var l []int
	for len(l) < size {
		v := m.number(4)
		n := 1
		switch v {
		case 13:
			m.wrong(len(l) == 0)
			v = l[len(l)-1]
			n = 3 + m.number(2)
		case 14:
			v = 0
			n = 3 + m.number(3)
		case 15:
			v = 0
			n = 11 + m.number(6)
		}
		for range n {
			l = append(l, v)
		}
	}
	m.wrong(len(l) > size)
	sum := 0
	for s, n := range l {
		if n > 0 {
			lengths[s] = n
			sum += 4096 >> n
		}
	}
	m.wrong(sum != 4096)
	return canonical(lengths)
}

func canonical(lengths map[int]int) map[string]int {
	var symbols []int
	for s := range lengths {
		symbols = append(symbols, s)
	}
	sort.Slice(symbols, func(i, j int) bool {
		a, b := symbols[i], symbols[j]
		return lengths[a] < lengths[b] || lengths[a] == lengths[b] && a < b
	})
	bits := map[string]int{}
	row := ""
	for i, s := range symbols {
		if i > 0 {
			v, _ := strconv.ParseInt("0"+row, 2, 64)
			row = strconv.FormatInt(v+1, 2)
			for len(row) < lengths[symbols[i-1]] {
				row = "0" + row
			}
		}
		for len(row) < lengths[s] {
			row += "0"
		}
		bits[row] = s
	}
	return bits
}

func (m *model) symbol(code map[string]int) int {
	row := ""
	for {
		if s, ok := code[row]; ok {
			return s
		}
		row += strconv.Itoa(m.number(1))
	}
}

func (m *model) command(letters map[string]int, distances map[string]int, end int) {
	s := m.symbol(letters)
	if s < 256 {
		m.out = append(m.out, byte(s))
		return
	}
	m.copies++
	k := s - 256
	n := []int{3, 4, 5, 6, 7, 8, 9, 10, 11, 13, 17, 25, 41, 73, 137, 265}[k]
	n += m.number([]int{0, 0, 0, 0, 0, 0, 0, 0, 1, 2, 3, 4, 5, 6, 7, 8}[k])
	d := m.symbol(distances)
	far := 0
	if d < 4 {
		far = m.last4[d]
	} else {
		far = 1<<(d-4) + m.number(d-4)
	}
	if d != 0 {
		m.last4 = append([]int{far}, m.last4[:3]...)
	}
	m.wrong(far > m.window || far > len(m.out) || n > end-len(m.out))
	for range n {
		m.out = append(m.out, m.out[len(m.out)-far])
	}
}
