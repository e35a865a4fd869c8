package tape

import (
	"slices"

	"trestle/api"
)

// operation is what a call asks of a tape that is up.
type operation interface {
	// refusal tells the error for which the tape does not take it; OK: it does.
	refusal(t *Tape) api.Errno
	// result tells the bytes of the tape behind it, of those ahead of it.
	result(b []byte) []byte
}

type (
	write struct{ parts [][]byte }
	hold  struct{}
	cut   struct{ n int }
	swap  struct{ b []byte }
)

func (w write) refusal(t *Tape) api.Errno {
	// Part by part, as the sum of all lengths may be beyond what an int holds.
	free := t.room - len(t.bytes)
	for _, part := range w.parts {
		if len(part) > max(free, 0) {
			return api.ErrFull
		}
		free -= len(part)
	}
	return api.OK
}

func (w write) result(b []byte) []byte {
	for _, part := range w.parts {
		b = append(b, part...)
	}
	return b
}

func (hold) refusal(*Tape) api.Errno { return api.OK }

func (hold) result(b []byte) []byte { return b }

func (c cut) refusal(t *Tape) api.Errno {
	if c.n < 0 || c.n > len(t.bytes) {
		return api.ErrArg
	}
	return api.OK
}

func (c cut) result(b []byte) []byte { return b[:c.n] }

func (s swap) refusal(t *Tape) api.Errno {
	if len(s.b) > t.room {
		return api.ErrFull
	}
	return api.OK
}

func (s swap) result([]byte) []byte { return slices.Clone(s.b) }
