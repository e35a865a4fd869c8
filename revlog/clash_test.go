package revlog

import (
	"strings"
	"testing"

	"trestle/api"
)

// clashing makes a log of two texts and then one under the node that another text
// has: no two texts of one node are known that these tests could add.
func clashing(t *testing.T, node api.Id, text string, p1, p2 api.Id) *Log {
	t.Helper()
	l := New()
	for _, s := range []string{"a", "b"} {
		if _, err := l.Add([]byte(s), api.Id{}, api.Id{}); err != api.OK {
			t.Fatalf("Add: error %d", err)
		}
	}
	if err := l.keep(node, []byte(text), p1, p2); err != api.OK {
		t.Fatalf("the text that clashes: error %d", err)
	}
	return l
}

// holdThere holds the third text of a log against what it was.
func holdThere(t *testing.T, l *Log, node api.Id, text string, p1, p2 api.Id) {
	t.Helper()
	b, err1 := l.Text(node)
	g1, g2, err2 := l.Parents(node)
	if string(b) != text || g1 != p1 || g2 != p2 || err1 != api.OK || err2 != api.OK {
		t.Errorf("what was there is %q, %x, %x, errors %d, %d", b, g1, g2, err1, err2)
	}
	if id, ok := l.Node(2); id != node || !ok {
		t.Errorf("Node(2): %x, %t", id, ok)
	}
}

// P15.1: another text with the node of one that is there is refused, differ it in
// its bytes, in its length or in one parent alone, and the first one stays.
func TestClash(t *testing.T) {
	var zero api.Id
	a, b := Node([]byte("a"), zero, zero), Node([]byte("b"), zero, zero)
	node := Node([]byte("hello"), a, b)
	for _, r := range []struct {
		text   string
		p1, p2 api.Id
	}{
		{"hellx", a, b}, {"xello", a, b}, {"hell", a, b}, {"hello\x00", a, b}, {"", a, b}, {strings.Repeat("hello", 100), a, b},
		{"hello", zero, b}, {"hello", a, zero}, {"hello", zero, zero}, {"hello", b, a}, {"hello", a, a}, {"hello", b, b}, {"hell", b, a},
	} {
		l := clashing(t, node, r.text, r.p1, r.p2)
		for range 2 {
			if id, err := l.Add([]byte("hello"), a, b); id != zero || err != api.ErrClash || l.Len() != 3 {
				t.Errorf("Add where %q, %x, %x is: %x, error %d, %d texts", r.text, r.p1, r.p2, id, err, l.Len())
			}
			holdThere(t, l, node, r.text, r.p1, r.p2)
		}
	}
	l := clashing(t, node, "hello", a, b)
	if id, err := l.Add([]byte("hello"), a, b); id != node || err != api.OK || l.Len() != 3 {
		t.Errorf("Add of what is there: %x, error %d, %d texts", id, err, l.Len())
	}
}

// P15.1: a text without bytes clashes with one that has some, and a text is held
// against one that is stored as a delta.
func TestClashOfOtherKinds(t *testing.T) {
	var zero api.Id
	for _, other := range []string{"", "x", strings.Repeat("x", 30) + "y"} {
		node := Node([]byte(other), zero, zero)
		l := clashing(t, Node([]byte(strings.Repeat("x", 30)), zero, zero), strings.Repeat("x", 30), zero, zero)
		if err := l.keep(node, []byte(strings.Repeat("x", 30)+"z"), zero, zero); err != api.OK || l.Chain(3) != 1 {
			t.Fatalf("keep: error %d, Chain %d", err, l.Chain(3))
		}
		if id, err := l.Add([]byte(other), zero, zero); id != zero || err != api.ErrClash || l.Len() != 4 {
			t.Errorf("Add of %q: %x, error %d, %d texts", other, id, err, l.Len())
		}
	}
}

// P15.1, R5: a text that is too long, or whose parent is not there, is refused for
// that ahead of a clash; and a full log tells of a clash ahead of its limit.
func TestClashAmongErrors(t *testing.T) {
	var zero api.Id
	gone := api.Id{1}
	for _, r := range []struct {
		text   string
		p1, p2 api.Id
		want   api.Errno
	}{
		{"hello", zero, zero, api.ErrClash}, {"hello", gone, zero, api.ErrNone}, {"hello", zero, gone, api.ErrNone}, {"hello", gone, gone, api.ErrNone},
		{strings.Repeat("x", api.MaxBody), zero, zero, api.ErrClash}, {strings.Repeat("x", api.MaxBody+1), zero, zero, api.ErrLimit}, {strings.Repeat("x", api.MaxBody+1), gone, zero, api.ErrLimit},
	} {
		node := Node([]byte(r.text), r.p1, r.p2)
		l := clashing(t, node, "there", zero, zero)
		for range 2 {
			length := l.Len()
			if id, err := l.Add([]byte(r.text), r.p1, r.p2); id != zero || err != r.want || l.Len() != length {
				t.Errorf("Add of %d bytes, %x, %x, to %d texts: %x, error %d; want %d", len(r.text), r.p1, r.p2, length, id, err, r.want)
			}
			holdThere(t, l, node, "there", zero, zero)
			fill(t, l)
		}
	}
}

// fill adds texts until there are as many as may be.
func fill(t *testing.T, l *Log) {
	t.Helper()
	for n := 0; l.Len() < api.MaxChanges; n++ {
		if _, err := l.Add([]byte{byte(n), byte(n >> 8)}, api.Id{}, api.Id{}); err != api.OK {
			t.Fatalf("the text %d: error %d", n, err)
		}
	}
	if _, err := l.Add([]byte("more"), api.Id{}, api.Id{}); err != api.ErrLimit {
		t.Fatalf("one more: error %d", err)
	}
}

// P15.2: a text is kept as one of two types, a delta with the text directly
// before it; what is kept has bytes of its own.
func TestWaysOfStoring(t *testing.T) {
	long := []byte(strings.Repeat("0123456789", 5))
	first := store(long, nil)
	w, ok := first.(whole)
	if !ok || string(w) != string(long) || &w[0] == &long[0] || chain(first) != 0 {
		t.Errorf("the first text: %T, Chain %d", first, chain(first))
	}
	next := append(long, "next"...)
	second := store(next, first)
	e, ok := second.(edited)
	if !ok || len(e.edits) != 1 || string(e.edits[0].B) != "next" || string(e.before.text()) != string(long) || string(second.text()) != string(next) || chain(second) != 1 {
		t.Errorf("the second text: %T, Chain %d", second, chain(second))
	}
	if _, ok := store([]byte("other"), second).(whole); !ok {
		t.Error("a text that has nothing of the one before it is a delta")
	}
	if chain(nil) != 0 {
		t.Error("nothing has a chain")
	}
}
