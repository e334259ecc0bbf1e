// Package reader: reads a stream, piece by piece.
package reader

import (
	"wring/api"
	"wring/codes"
	"wring/copies"
)

// The parts of a stream: which one is to be read next.
const (
	atWindow = iota
	atBlock
	atSize
	atByte
	atLetterCode
	atDistanceCode
	atLetter
	atLengthMore
	atDistance
	atDistanceMore
	atEnd
	atFault
)

// Reader reads one stream.
type Reader struct {
	hold int // bits that came and belong to no part yet, the first one lowest
	have int // how many they are
	part int

	last bool // of the block
	kind int
	left int // bytes that the block still has

	maker     codes.Maker
	letters   codes.Code
	distances codes.Code

	least  int // of the length or distance whose bits more are to be read
	more   int // how many these are
	length int // of the copy
	recent copies.Recent
	past   past

	trailing bool
	out      []byte
}

// New answers a reader at the beginning of its stream.
func New() *Reader {
	return &Reader{recent: copies.NewRecent()}
}

// Read takes the next piece of the stream and answers what comes out with it.
func (x *Reader) Read(s string) string {
	for i := 0; i < len(s) && x.part != atFault && !x.trailing; i++ {
		x.take(s[i])
	}
	out := string(x.out)
	x.out = nil
	return out
}

// Errno tells what is to be said if nothing more comes.
func (x *Reader) Errno() api.Errno {
	if x.part == atFault {
		return api.ErrCorrupt
	}
	if x.part != atEnd {
		return api.ErrTruncated
	}
	if x.trailing {
		return api.ErrTrailing
	}
	return api.OK
}

func (x *Reader) take(c byte) {
	if x.part == atEnd {
		x.trailing = true
		return
	}
	x.hold = x.hold + int(c)<<uint(x.have)
	x.have = x.have + 8
	// This ends: only the parts of a command may take no bits, and every command leaves the block fewer bytes.
	for x.step() {
	}
}

// step reads the next part, if all its bits are there.
func (x *Reader) step() bool {
	if x.part == atEnd || x.part == atFault {
		return false
	}
	v, there := x.next()
	if there {
		x.use(v)
	}
	return there
}

// next takes the bits of the next part.
func (x *Reader) next() (int, bool) {
	v := 0
	n := 0
	switch x.part {
	case atLetter:
		v, n = x.letters.Find(x.hold, x.have)
	case atDistance:
		v, n = x.distances.Find(x.hold, x.have)
	default:
		n = x.width()
		v = x.hold & (1<<uint(n) - 1)
	}
	if n > x.have {
		return 0, false
	}
	x.hold = x.hold >> uint(n)
	x.have = x.have - n
	return v, true
}

// width tells how many bits the next part has, if it is a number.
func (x *Reader) width() int {
	switch x.part {
	case atWindow:
		return 4
	case atBlock:
		return 3
	case atSize:
		if x.kind == api.Note {
			return 8
		}
		return 12
	case atLetterCode, atDistanceCode:
		return x.maker.Width()
	case atLengthMore, atDistanceMore:
		return x.more
	}
	return 8
}

// use does what the part says that has been read.
func (x *Reader) use(v int) {
	switch x.part {
	case atWindow:
		x.useWindow(v)
	case atBlock:
		x.useBlock(v)
	case atSize:
		x.useSize(v)
	case atByte:
		x.useByte(v)
	case atLetterCode, atDistanceCode:
		x.useCode(v)
	case atLetter:
		x.useLetter(v)
	case atLengthMore:
		x.length = x.least + v
		x.part = atDistance
	case atDistance:
		x.useDistance(v)
	case atDistanceMore:
		distance := x.least + v
		x.recent.Add(distance)
		x.useCopy(distance)
	}
}

func (x *Reader) useWindow(w int) {
	if w > api.MaxWindow {
		x.part = atFault
		return
	}
	x.past.window = 16 << uint(w)
	x.part = atBlock
}

// put lets a byte come out.
func (x *Reader) put(c byte) {
	x.out = append(x.out, c)
	x.past.add(c)
	x.left--
}
