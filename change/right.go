package change

import (
	"strings"
	"unicode/utf8"

	"trestle/api"
	"trestle/quote"
	"trestle/refname"
)

const (
	maxExtras = 40
	maxKey    = 40 // bytes of a key
)

// rightParts tells whether all is right about a change but for the length of
// its encoding.
func rightParts(c api.Change) bool {
	return rightParents(c.P1, c.P2) && rightUser(c.User) && rightDate(c.When, int64(c.Zone)) && refname.Branch(c.Branch) &&
		rightExtras(c.Extras) && rightCopies(c.Copies) && rightText(c.Text)
}

// rightParents tells whether a change may have these parents.
func rightParents(p1, p2 api.Id) bool {
	none := api.Id{}
	return p2 == none || p1 != none && p1 != p2
}

// rightUser tells whether a change may be by this user.
func rightUser(s string) bool {
	return s != "" && len(s) <= 2*api.MaxName && utf8.ValidString(s) && !strings.ContainsAny(s, "\x00\n")
}

// rightDate tells whether a change may be of this time, in this zone.
func rightDate(when, zone int64) bool {
	return when >= 0 && when <= api.MaxWhen && zone >= -api.MaxZone && zone <= api.MaxZone
}

// rightExtras tells whether a change may have these extras.
func rightExtras(l []api.Extra) bool {
	if len(l) > maxExtras {
		return false
	}
	for i, e := range l {
		if i > 0 && l[i-1].Key >= e.Key || !rightKey(e.Key) || !rightValue(e.Value) {
			return false
		}
	}
	return true
}

// rightKey tells whether an extra may have this key.
func rightKey(s string) bool {
	if s == "" || len(s) > maxKey {
		return false
	}
	for i, r := range s {
		if !letter(r) && (i == 0 || !behind(r)) {
			return false
		}
	}
	return true
}

// letter tells whether a key may begin with a rune.
func letter(r rune) bool {
	return 'a' <= r && r <= 'z'
}

// behind tells whether a rune, while no letter, may stand behind one in a key.
func behind(r rune) bool {
	return '0' <= r && r <= '9' || r == '-' || r == '.'
}

// rightValue tells whether an extra may have this value.
func rightValue(s string) bool {
	return len(s) <= api.MaxBody/8 && !strings.Contains(s, "\x00")
}

// rightCopies tells whether a change may have these copies.
func rightCopies(l []api.Copy) bool {
	if len(l) > api.MaxFiles {
		return false
	}
	for i, k := range l {
		if i > 0 && l[i-1].To >= k.To || k.From == k.To || !rightPath(k.From) || !rightPath(k.To) {
			return false
		}
	}
	return true
}

// rightPath tells whether a copy may be of this path, or be one.
func rightPath(s string) bool {
	return quote.Path(s) && !strings.Contains(s, "\n")
}

// rightText tells whether a change may have this text.
func rightText(s string) bool {
	return len(s) <= api.MaxBody/2 && !strings.Contains(s, "\x00")
}
