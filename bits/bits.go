// Package bits: numbers laid one behind the other into bytes.
package bits

// Row is a row of bits that grows.
type Row struct {
	out  []byte
	hold int // bits that do not make a byte yet, the first one lowest
	have int // how many they are
}

// Number adds a number of so many bits; it fits into them.
func (r *Row) Number(v int, width int) {
	r.hold = r.hold + v<<uint(r.have)
	r.have = r.have + width
	for r.have >= 8 {
		r.out = append(r.out, byte(r.hold))
		r.hold = r.hold >> 8
		r.have = r.have - 8
	}
}

// Fill adds bits 0 up to the next byte.
func (r *Row) Fill() {
	if r.have > 0 {
		r.Number(0, 8-r.have)
	}
}

// Even says whether the next bit begins a byte.
func (r *Row) Even() bool { return r.have == 0 }

// Size tells how many bits there are that were not taken.
func (r *Row) Size() int { return 8*len(r.out) + r.have }

// Add adds all the bits of another row.
func (r *Row) Add(other *Row) {
	for i := 0; i < len(other.out); i++ {
		r.Number(int(other.out[i]), 8)
	}
	r.Number(other.hold, other.have)
}

// Take answers the bytes that are whole. The bits behind them stay for the next ones.
func (r *Row) Take() string {
	s := string(r.out)
	r.out = nil
	return s
}
