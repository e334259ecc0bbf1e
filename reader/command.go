package reader

import "wring/copies"

func (x *Reader) useLetter(symbol int) {
	if symbol < copies.First {
		x.put(byte(symbol))
		x.endCommand()
		return
	}
	least, more := copies.Length(symbol - copies.First)
	x.least = least
	x.more = more
	x.part = atLengthMore
}

func (x *Reader) useDistance(symbol int) {
	if symbol < copies.Near {
		distance := x.recent.Use(symbol)
		x.useCopy(distance)
		return
	}
	least, more := copies.Distance(symbol)
	x.least = least
	x.more = more
	x.part = atDistanceMore
}

// useCopy looks for faults only here, where the whole copy has been read: so the document wants it.
func (x *Reader) useCopy(distance int) {
	if distance > x.past.reach || x.length > x.left {
		x.part = atFault
		return
	}
	for i := 0; i < x.length; i++ {
		c := x.past.ago(distance)
		x.put(c)
	}
	x.endCommand()
}

func (x *Reader) endCommand() {
	x.part = atLetter
	if x.left == 0 {
		x.endBlock()
	}
}
