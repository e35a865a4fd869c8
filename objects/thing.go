package objects

import (
	"bytes"

	"trestle/api"
)

// thing is an object that a store keeps. Its kind is its type.
type thing interface {
	// bytes gives the bytes of the object, its own ones: nobody writes to them.
	bytes() []byte
}

type (
	aBlob   struct{ body }
	aTree   struct{ body }
	aCommit struct{ body }
)

// body is what the objects of all kinds have.
type body []byte

func (b body) bytes() []byte { return b }

// typed makes a thing of an object, with bytes of its own; nil: there is no
// such kind.
func typed(o api.Object) thing {
	b := body(bytes.Clone(o.Body))
	switch o.Kind {
	case api.Blob:
		return aBlob{b}
	case api.Tree:
		return aTree{b}
	case api.Commit:
		return aCommit{b}
	}
	return nil
}

// kind tells the kind of a thing; 0 for nil.
func kind(x thing) int {
	if _, ok := x.(aBlob); ok {
		return api.Blob
	}
	if _, ok := x.(aTree); ok {
		return api.Tree
	}
	if _, ok := x.(aCommit); ok {
		return api.Commit
	}
	return 0
}

// same tells whether a thing is that object.
func same(x thing, o api.Object) bool {
	return kind(x) == o.Kind && bytes.Equal(x.bytes(), o.Body)
}
