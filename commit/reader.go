package commit

import (
	"strings"

	"trestle/api"
	"trestle/hexa"
	"trestle/ident"
)

// reader has what is left of an encoding.
type reader struct{ rest string }

// line splits off the line that begins with a word, and tells what stands
// behind the word; false: the next line is not such a one, and stays.
func (r *reader) line(word string) (string, bool) {
	rest, ok := strings.CutPrefix(r.rest, word+" ")
	if !ok {
		return "", false
	}
	value, rest, ok := strings.Cut(rest, "\n")
	if !ok {
		return "", false
	}
	r.rest = rest
	return value, true
}

// record reads what may be an encoding; false: it has not got the shape of
// one. The record need not be valid.
func record(s string) (api.Record, bool) {
	r := reader{s}
	tree, ok := r.id(treeWord)
	if !ok {
		return api.Record{}, false
	}
	parents, ok := r.parents()
	if !ok {
		return api.Record{}, false
	}
	author, ok := r.ident(authorWord)
	if !ok {
		return api.Record{}, false
	}
	committer, ok := r.ident(committerWord)
	if !ok {
		return api.Record{}, false
	}
	text, ok := strings.CutPrefix(r.rest, "\n")
	return api.Record{Tree: tree, Parents: parents, Author: author, Committer: committer, Text: text}, ok
}

// id reads the id of the line of a word.
func (r *reader) id(word string) (api.Id, bool) {
	value, ok := r.line(word)
	if !ok {
		return api.Id{}, false
	}
	id, err := hexa.Id(value)
	return id, err == api.OK
}

// ident reads the ident of the line of a word.
func (r *reader) ident(word string) (api.Ident, bool) {
	value, ok := r.line(word)
	if !ok {
		return api.Ident{}, false
	}
	i, err := ident.Parse(value)
	return i, err == api.OK
}

// parents reads the lines of parents that there are. One more than there may
// be stays, where no other line is looked for.
func (r *reader) parents() ([]api.Id, bool) {
	var l []api.Id
	for range api.MaxParents {
		value, ok := r.line(parentWord)
		if !ok {
			break
		}
		id, err := hexa.Id(value)
		if err != api.OK {
			return nil, false
		}
		l = append(l, id)
	}
	return l, true
}
