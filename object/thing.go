package object

import "trestle/api"

// thing is an object whose kind is its type.
type thing interface {
	// size tells how many bytes the body has.
	size() int
}

type (
	blob   struct{ body }
	tree   struct{ body }
	commit struct{ body }
)

// body is what the objects of all kinds have.
type body []byte

func (b body) size() int { return len(b) }

// typed gives an object the type of its kind; nil: there is no such kind.
// The body is that of the object, not a copy.
func typed(o api.Object) thing {
	switch o.Kind {
	case api.Blob:
		return blob{o.Body}
	case api.Tree:
		return tree{o.Body}
	case api.Commit:
		return commit{o.Body}
	}
	return nil
}

// word tells the word that an encoding begins with; an empty text for nil.
func word(x thing) string {
	if _, ok := x.(blob); ok {
		return "blob"
	}
	if _, ok := x.(tree); ok {
		return "tree"
	}
	if _, ok := x.(commit); ok {
		return "commit"
	}
	return ""
}
