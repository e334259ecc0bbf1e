// Package writer: makes a stream out of what is written, block by block.
package writer

import "wring/api"

// Writer makes one stream.
type Writer struct {
	bits    bits
	waiting [api.MaxBlock]byte // what was written and is in no block yet
	count   int                // how many bytes these are
}

// New answers a writer at the beginning of its stream.
func New(window int) *Writer {
	x := &Writer{}
	x.bits.number(window, 4)
	return x
}

// Write takes bytes, and answers what is ready.
// As many bytes as fill a block wait for the one behind them, since their block may turn out to be LAST.
func (x *Writer) Write(s string) string {
	for i := 0; i < len(s); i++ {
		if x.count >= len(x.waiting) {
			x.stored(false)
		}
		x.waiting[x.count] = s[i]
		x.count++
	}
	return x.bits.take()
}

// Note adds a note of at most MaxNote bytes. What was written before it stands ahead of it.
func (x *Writer) Note(s string) string {
	x.letOut()
	x.begin(api.Note, false)
	x.bits.number(len(s), 8)
	x.bits.fill()
	for i := 0; i < len(s); i++ {
		x.bits.number(int(s[i]), 8)
	}
	return x.bits.take()
}

// Flush lets out what waits. An empty block is wanted only where the next block would not begin with a byte.
func (x *Writer) Flush() string {
	x.letOut()
	if x.bits.have > 0 {
		x.begin(api.Empty, false)
		x.bits.fill()
	}
	return x.bits.take()
}

// Finish ends the stream.
func (x *Writer) Finish() string {
	if x.count > 0 {
		x.stored(true)
	} else {
		x.begin(api.Empty, true)
	}
	x.bits.fill()
	return x.bits.take()
}

// letOut makes a block of what waits, if something does.
func (x *Writer) letOut() {
	if x.count > 0 {
		x.stored(false)
	}
}

// stored makes a stored block of what waits: at least one byte.
func (x *Writer) stored(last bool) {
	x.begin(api.Stored, last)
	x.bits.number(x.count-1, 12)
	x.bits.fill()
	for i := 0; i < x.count && i < len(x.waiting); i++ {
		x.bits.number(int(x.waiting[i]), 8)
	}
	x.count = 0
}

// begin writes what every block begins with.
func (x *Writer) begin(kind int, last bool) {
	if last {
		x.bits.number(1, 1)
	} else {
		x.bits.number(0, 1)
	}
	x.bits.number(kind, 2)
}
