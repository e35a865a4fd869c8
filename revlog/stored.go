package revlog

import (
	"bytes"

	"trestle/api"
	"trestle/delta"
)

// stored is a text that a log keeps. The way of storing it is its type.
type stored interface {
	// text gives the text; nobody writes to it, as the log may have it like this.
	text() []byte
}

type (
	// whole is a text that is stored completely.
	whole []byte
	// edited is a text that is stored as a delta of the one added directly before it.
	edited struct {
		before stored
		edits  []api.Edit
	}
)

func (w whole) text() []byte { return w }

func (e edited) text() []byte {
	// The edits were made of this very text, and for one that is not too long.
	b, _ := delta.Apply(e.before.text(), e.edits)
	return b
}

// chain counts the deltas back to a text that is stored completely.
func chain(s stored) int {
	n := 0
	for e, ok := s.(edited); ok; e, ok = e.before.(edited) {
		n++
	}
	return n
}

// store makes what is kept of a text that is added directly behind another one;
// nil: it is the first.
func store(text []byte, before stored) stored {
	if before != nil && chain(before) < api.MaxChain {
		edits := delta.Make(before.text(), text)
		if len(delta.Print(edits)) < len(text) {
			return edited{before, edits}
		}
	}
	return whole(bytes.Clone(text))
}
