package change

import (
	"strings"

	"trestle/api"
	"trestle/hexa"
)

// reader has what is left of an encoding.
type reader struct{ rest string }

// shaped reads what may be an encoding; false: it has not got the shape of
// one. The change has no parents yet, and need not be valid.
func shaped(s string) (api.Change, bool) {
	r := reader{s}
	manifest, ok := r.id()
	if !ok {
		return api.Change{}, false
	}
	user, ok := r.line("")
	if !ok {
		return api.Change{}, false
	}
	when, zone, ok := r.date()
	if !ok {
		return api.Change{}, false
	}
	branch, ok := r.line(branchWord)
	if !ok {
		return api.Change{}, false
	}
	extras, ok := r.extras()
	if !ok {
		return api.Change{}, false
	}
	copies, ok := r.copies()
	if !ok {
		return api.Change{}, false
	}
	text, ok := strings.CutPrefix(r.rest, "\n")
	return api.Change{Manifest: manifest, User: user, When: when, Zone: zone, Branch: branch, Extras: extras, Copies: copies, Text: text}, ok
}

// line splits off the line that begins with a word, and tells what stands
// behind the word; false: the next line is not such a one, and stays.
func (r *reader) line(word string) (string, bool) {
	rest, ok := strings.CutPrefix(r.rest, word)
	if !ok {
		return "", false
	}
	value, rest, ok := strings.Cut(rest, "\n")
	if !ok {
		return "", false
	}
	r.rest = rest
	return value, true
}

// id reads the line of an id.
func (r *reader) id() (api.Id, bool) {
	s, ok := r.line("")
	if !ok {
		return api.Id{}, false
	}
	id, err := hexa.Id(s)
	return id, err == api.OK
}

// date reads the line of a time and a zone.
func (r *reader) date() (int64, int, bool) {
	s, ok := r.line("")
	if !ok {
		return 0, 0, false
	}
	first, second, ok := strings.Cut(s, " ")
	if !ok {
		return 0, 0, false
	}
	when, err := hexa.TakeNumber(first)
	if err != api.OK {
		return 0, 0, false
	}
	zone, err := hexa.TakeNumber(second)
	// An int need not have room for a zone that is not right.
	if err != api.OK || !rightDate(when, zone) {
		return 0, 0, false
	}
	return when, int(zone), true
}

// extras reads the lines of extras that there are.
func (r *reader) extras() ([]api.Extra, bool) {
	var l []api.Extra
	for {
		s, ok := r.line(extraWord)
		if !ok {
			return l, true
		}
		key, digits, ok := strings.Cut(s, " ")
		if !ok {
			return nil, false
		}
		value, ok := unhex(digits)
		if !ok {
			return nil, false
		}
		l = append(l, api.Extra{Key: key, Value: value})
	}
}

// copies reads the lines of copies that there are.
func (r *reader) copies() ([]api.Copy, bool) {
	var l []api.Copy
	for {
		s, ok := r.line(copyWord)
		if !ok {
			return l, true
		}
		first, second, ok := strings.Cut(s, " ")
		if !ok {
			return nil, false
		}
		from, ok := unhex(first)
		if !ok {
			return nil, false
		}
		to, ok := unhex(second)
		if !ok {
			return nil, false
		}
		l = append(l, api.Copy{From: from, To: to})
	}
}

// unhex reads a text that is told by digits; false: it is none.
func unhex(s string) (string, bool) {
	b, err := hexa.Unhex(s)
	if err != api.OK {
		return "", false
	}
	return string(b), true
}
