package writer

import (
	"wring/api"
	"wring/bits"
	"wring/codes"
	"wring/commands"
	"wring/copies"
)

// The levels from which on blocks have codes, and copies.
const (
	fromCodes  = 1
	fromCopies = 2
)

// coded answers the shortest coded form of what waits that the level asks for, if it is shorter than the bytes themselves.
// The last distances move on only with a block that goes out.
func (x *Writer) coded() (bits.Row, bool) {
	if x.level < fromCodes {
		return bits.Row{}, false
	}
	list := commands.Letters(x.waiting)
	row := body(list)
	recent := x.recent
	if x.level >= fromCopies {
		behind := x.recent
		list = commands.Copies(x.waiting, x.window, &behind)
		other := body(list)
		if other.Size() < row.Size() {
			row = other
			recent = behind
		}
	}
	if row.Size() >= 8*len(x.waiting) {
		return bits.Row{}, false
	}
	x.recent = recent
	return row, true
}

// body answers both codes and the commands of a coded block.
func body(list []commands.Command) bits.Row {
	var letters [api.Letters]int
	var far [api.Far]int
	for i := 0; i < len(list); i++ {
		c := list[i]
		if c.Letter >= 0 && c.Letter < len(letters) {
			letters[c.Letter]++
		}
		if c.IsCopy() && c.Far >= 0 && c.Far < len(far) {
			far[c.Far]++
		}
	}
	letterCode := codes.ForLetters(letters)
	farCode := codes.ForDistances(far)
	row := bits.Row{}
	letterCode.Tell(&row)
	farCode.Tell(&row)
	for i := 0; i < len(list); i++ {
		put(&row, list[i], &letterCode, &farCode)
	}
	return row
}

func put(row *bits.Row, c commands.Command, letters *codes.Sender, far *codes.Sender) {
	letters.Put(row, c.Letter)
	if !c.IsCopy() {
		return
	}
	least, more := copies.Length(c.Letter - copies.First)
	row.Number(c.Length-least, more)
	far.Put(row, c.Far)
	if c.Far >= copies.Near {
		least, more = copies.Distance(c.Far)
		row.Number(c.Distance-least, more)
	}
}
