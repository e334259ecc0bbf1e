package reader

import (
	"wring/api"
	"wring/codes"
)

// useBlock takes the bit that says LAST and the kind as one number: nothing can be found between them.
func (x *Reader) useBlock(v int) {
	x.last = v%2 == 1
	x.kind = v / 2
	if x.kind != api.Empty {
		x.part = atSize
		return
	}
	if x.fill() {
		x.endBlock()
	}
}

func (x *Reader) useSize(v int) {
	if x.kind == api.Coded {
		x.left = v + 1
		x.maker.Letters()
		x.part = atLetterCode
		return
	}
	x.left = v
	if x.kind == api.Stored {
		x.left = v + 1
	}
	if !x.fill() {
		return
	}
	x.part = atByte
	if x.left == 0 {
		x.endBlock()
	}
}

func (x *Reader) useByte(v int) {
	if x.kind == api.Stored {
		x.put(byte(v))
	} else {
		x.left--
	}
	if x.left == 0 {
		x.endBlock()
	}
}

// fill reads up to the next byte, and says whether that was right.
// The bits are there: a stream comes in whole bytes.
func (x *Reader) fill() bool {
	n := uint(x.have % 8)
	if x.hold&(1<<n-1) != 0 {
		x.part = atFault
		return false
	}
	x.hold = x.hold >> n
	x.have = x.have - int(n)
	return true
}

func (x *Reader) endBlock() {
	if !x.last {
		x.part = atBlock
		return
	}
	if x.fill() {
		x.part = atEnd
	}
}

// useCode takes a number of the letter code or of the distance code.
func (x *Reader) useCode(v int) {
	said := x.maker.Give(v)
	if said == codes.Wrong {
		x.part = atFault
		return
	}
	if said == codes.More {
		return
	}
	if x.part == atLetterCode {
		x.letters = x.maker.Code()
		x.maker.Distances()
		x.part = atDistanceCode
		return
	}
	x.distances = x.maker.Code()
	x.part = atLetter
}
