// Package writer: makes a stream out of what is written, block by block.
package writer

import (
	"wring/api"
	"wring/bits"
	"wring/copies"
)

// Writer makes one stream.
type Writer struct {
	bits    bits.Row
	level   int
	window  int           // in bytes
	recent  copies.Recent // the last distances behind all blocks so far
	waiting []byte        // what was written and is in no block yet: at most MaxBlock bytes
}

// New answers a writer at the beginning of its stream.
func New(window int, level int) *Writer {
	x := &Writer{level: level, window: 16 << uint(window), recent: copies.NewRecent()}
	x.bits.Number(window, 4)
	return x
}

// Write takes bytes, and answers what is ready.
// As many bytes as fill a block wait for the one behind them, since their block may turn out to be LAST.
func (x *Writer) Write(s string) string {
	for i := 0; i < len(s); i++ {
		if len(x.waiting) >= api.MaxBlock {
			x.block(false)
		}
		x.waiting = append(x.waiting, s[i])
	}
	return x.bits.Take()
}

// Note adds a note of at most MaxNote bytes. What was written before it stands ahead of it.
func (x *Writer) Note(s string) string {
	x.letOut()
	x.begin(api.Note, false)
	x.bits.Number(len(s), 8)
	x.bits.Fill()
	for i := 0; i < len(s); i++ {
		x.bits.Number(int(s[i]), 8)
	}
	return x.bits.Take()
}

// Flush lets out what waits. An empty block is wanted only where the next block would not begin with a byte.
func (x *Writer) Flush() string {
	x.letOut()
	if !x.bits.Even() {
		x.begin(api.Empty, false)
		x.bits.Fill()
	}
	return x.bits.Take()
}

// Finish ends the stream.
func (x *Writer) Finish() string {
	if len(x.waiting) > 0 {
		x.block(true)
	} else {
		x.begin(api.Empty, true)
	}
	x.bits.Fill()
	return x.bits.Take()
}

// letOut makes a block of what waits, if something does.
func (x *Writer) letOut() {
	if len(x.waiting) > 0 {
		x.block(false)
	}
}

// block makes a block of what waits: at least one byte.
func (x *Writer) block(last bool) {
	row, coded := x.coded()
	if coded {
		x.begin(api.Coded, last)
		x.bits.Number(len(x.waiting)-1, 12)
		x.bits.Add(&row)
	} else {
		x.stored(last)
	}
	x.waiting = x.waiting[:0]
}

func (x *Writer) stored(last bool) {
	x.begin(api.Stored, last)
	x.bits.Number(len(x.waiting)-1, 12)
	x.bits.Fill()
	for i := 0; i < len(x.waiting); i++ {
		x.bits.Number(int(x.waiting[i]), 8)
	}
}

// begin writes what every block begins with.
func (x *Writer) begin(kind int, last bool) {
	if last {
		x.bits.Number(1, 1)
	} else {
		x.bits.Number(0, 1)
	}
	x.bits.Number(kind, 2)
}
