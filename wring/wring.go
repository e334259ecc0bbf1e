// Package wring: streams of bytes, made shorter, piece by piece: see DOC.md.
package wring

import (
	"wring/api"
	"wring/reader"
	"wring/writer"
)

// Decoder reads a stream that comes in pieces.
type Decoder struct {
	reader *reader.Reader // nil behind Close: what it keeps is wanted no more
	said   api.Errno      // what Close said
}

// Encoder makes a stream out of what is written.
type Encoder struct {
	writer *writer.Writer // nil behind Finish: what it keeps is wanted no more
}

// Decode reads a stream (P2).
func Decode(s string) (string, api.Errno) {
	x := reader.New()
	out := x.Read(s)
	return out, x.Errno()
}

// NewDecoder makes a decoder (P3).
func NewDecoder() *Decoder {
	return &Decoder{reader: reader.New()}
}

// Feed takes the next piece of a stream (P3).
func (x *Decoder) Feed(s string) string {
	if x.reader == nil {
		return ""
	}
	return x.reader.Read(s)
}

// Close tells what was wrong, if anything was (P3).
func (x *Decoder) Close() api.Errno {
	if x.reader != nil {
		x.said = x.reader.Errno()
		x.reader = nil
	}
	return x.said
}

// NewEncoder makes an encoder (P4).
func NewEncoder(window int, level int) (*Encoder, api.Errno) {
	if window < 0 || window > api.MaxWindow || level < 0 || level > api.MaxLevel {
		return nil, api.ErrParam
	}
	return &Encoder{writer: writer.New(window, level)}, api.OK
}

// Write takes bytes (P5).
func (x *Encoder) Write(s string) (string, api.Errno) {
	if x.writer == nil {
		return "", api.ErrDone
	}
	return x.writer.Write(s), api.OK
}

// Flush lets everything out that was written (P5, P7).
func (x *Encoder) Flush() (string, api.Errno) {
	if x.writer == nil {
		return "", api.ErrDone
	}
	return x.writer.Flush(), api.OK
}

// Note lays a note into the stream (P5).
func (x *Encoder) Note(s string) (string, api.Errno) {
	if x.writer == nil {
		return "", api.ErrDone
	}
	if len(s) > api.MaxNote {
		return "", api.ErrLong
	}
	return x.writer.Note(s), api.OK
}

// Finish ends the stream (P5, P6).
func (x *Encoder) Finish() (string, api.Errno) {
	if x.writer == nil {
		return "", api.ErrDone
	}
	out := x.writer.Finish()
	x.writer = nil
	return out, api.OK
}
