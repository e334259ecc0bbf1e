// Package wring: streams of bytes, made shorter, piece by piece: see DOC.md.
package wring

import (
	"wring/api"
	"wring/reader"
)

// Decoder reads a stream that comes in pieces.
type Decoder struct {
	reader *reader.Reader // nil behind Close: what it keeps is wanted no more
	said   api.Errno      // what Close said
}

// Encoder makes a stream out of what is written.
type Encoder struct{}

// Decode reads a stream (P2).
func Decode(s string) (string, api.Errno) {
	x := reader.New()
	out := x.Read(s)
	return out, x.Errno()
}

// NewDecoder makes a decoder (P3).
func NewDecoder() *Decoder {
	return &Decoder{reader: reader.New()}
}

// Feed takes the next piece of a stream (P3).
func (x *Decoder) Feed(s string) string {
	if x.reader == nil {
		return ""
	}
	return x.reader.Read(s)
}

// Close tells what was wrong, if anything was (P3).
func (x *Decoder) Close() api.Errno {
	if x.reader != nil {
		x.said = x.reader.Errno()
		x.reader = nil
	}
	return x.said
}

// NewEncoder makes an encoder (P4).
func NewEncoder(window int, level int) (*Encoder, api.Errno) { return nil, api.OK }

// Write takes bytes (P5).
func (x *Encoder) Write(s string) (string, api.Errno) { return "", api.OK }

// Flush lets everything out that was written (P5, P7).
func (x *Encoder) Flush() (string, api.Errno) { return "", api.OK }

// Note lays a note into the stream (P5).
func (x *Encoder) Note(s string) (string, api.Errno) { return "", api.OK }

// Finish ends the stream (P5, P6).
func (x *Encoder) Finish() (string, api.Errno) { return "", api.OK }
