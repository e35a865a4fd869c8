package delta

import (
	"bytes"

	"trestle/api"
)

// reader has what is left of an encoding, and the first error met in it. Behind
// an error nothing more is read.
type reader struct {
	rest []byte
	err  api.Errno
}

// next reads the edit that follows; false: none follows, or it cannot be read,
// which the error tells apart.
func (r *reader) next() (api.Edit, bool) {
	if len(r.rest) == 0 {
		return api.Edit{}, false
	}
	var e api.Edit
	e.From = r.number()
	e.To = r.number()
	e.B = bytes.Clone(r.take(r.number()))
	if r.err != api.OK {
		return api.Edit{}, false
	}
	return e, true
}

// number reads the number that follows.
func (r *reader) number() int {
	b := r.take(numberLen)
	if r.err != api.OK {
		return 0
	}
	// An int may be too small for a number that has not been held against its limit.
	v := uint32(b[0])<<24 | uint32(b[1])<<16 | uint32(b[2])<<8 | uint32(b[3])
	if v > mostNumber {
		r.err = api.ErrForm
		return 0
	}
	return int(v)
}

// take splits off the n bytes that follow: a piece of the encoding.
func (r *reader) take(n int) []byte {
	if r.err == api.OK && n > len(r.rest) {
		r.err = api.ErrShort
	}
	if r.err != api.OK {
		return nil
	}
	b := r.rest[:n]
	r.rest = r.rest[n:]
	return b
}
