package writer

// bits lays numbers one behind the other into bytes.
type bits struct {
	out  []byte
	hold int // bits that do not make a byte yet, the first one lowest
	have int // how many they are
}

// number adds a number of so many bits; it fits into them.
func (b *bits) number(v int, width int) {
	b.hold = b.hold + v<<uint(b.have)
	b.have = b.have + width
	for b.have >= 8 {
		b.out = append(b.out, byte(b.hold))
		b.hold = b.hold >> 8
		b.have = b.have - 8
	}
}

func (b *bits) fill() {
	if b.have > 0 {
		b.number(0, 8-b.have)
	}
}

// take answers the bytes that are whole. The bits behind them stay for the next ones.
func (b *bits) take() string {
	s := string(b.out)
	b.out = nil
	return s
}
