package revlog_test

import (
	"bytes"
	"fmt"
	"strings"
	"testing"

	"trestle/api"
	"trestle/revlog"
)

// want adds a text to a log alone: the caller says what is answered.
func want(t *testing.T, l *revlog.Log, r row, wantErr api.Errno) {
	t.Helper()
	wantNode := zero
	if wantErr == api.OK {
		wantNode = sumOf(r)
	}
	if node, err := l.Add([]byte(r.text), r.p1, r.p2); node != wantNode || err != wantErr {
		t.Errorf("Add of %d bytes %.20q, %x, %x: %x, error %d; want %x, error %d", len(r.text), r.text, r.p1, r.p2, node, err, wantNode, wantErr)
	}
}

// full makes a log with as many texts as may be but some, and its model. Many of
// the texts are stored as deltas, and most have parents.
func full(t *testing.T, but int) (*revlog.Log, *model) {
	t.Helper()
	l, m := filled(t, "first", "second")
	for n := 2; n < api.MaxChanges-but; n++ {
		add(t, l, m, strings.Repeat("text ", n%20/2)+fmt.Sprint(n), m.nodes[n-1], m.nodes[n/2])
	}
	return l, m
}

// P15.1: a text without bytes, nil and empty, with each kind of parents.
func TestNoBytes(t *testing.T) {
	for _, b := range [][]byte{nil, {}, make([]byte, 0, 9)} {
		l, m := filled(t, "a", varied(1, 50))
		p := m.nodes[0]
		for _, r := range []row{{"", zero, zero}, {"", p, zero}, {"", zero, p}, {"", p, p}} {
			want, _ := m.add(r)
			if node, err := l.Add(b, r.p1, r.p2); node != want || err != api.OK {
				t.Errorf("Add of no bytes, %x, %x: %x, error %d; want %x", r.p1, r.p2, node, err, want)
			}
			hold(t, l, m)
		}
		// A nil text is the same as an empty one.
		for _, again := range [][]byte{nil, {}} {
			if node, err := l.Add(again, zero, p); node != sumOf(row{"", zero, p}) || err != api.OK {
				t.Errorf("Add of no bytes again: %x, error %d", node, err)
			}
		}
		hold(t, l, m)
	}
}

// P15.1: texts of each length about the limits, as the first one and behind
// another one.
func TestLengths(t *testing.T) {
	for _, texts := range [][]string{nil, {"a"}, {varied(1, api.MaxBody)}, {"", strings.Repeat("x", api.MaxBody)}} {
		for _, n := range []int{0, 1, 2, 12, 13, 14, 63, 64, 255, 256, 4096, 65535, api.MaxBody - 1, api.MaxBody, api.MaxBody + 1, api.MaxBody + 2, 2 * api.MaxBody, 1<<17 + 1, 1 << 20} {
			for _, text := range []string{varied(1, n), varied(2, n), strings.Repeat("x", n), strings.Repeat("\x00", n)} {
				l, m := filled(t, texts...)
				add(t, l, m, text, zero, zero)
				hold(t, l, m)
				if n > api.MaxBody && l.Len() != len(texts) {
					t.Errorf("%d bytes: %d texts; want %d", n, l.Len(), len(texts))
				}
			}
		}
	}
}

// P15.1: a parent may be zero or a text that is there, as the first and as the
// second one.
func TestParents(t *testing.T) {
	l, m := filled(t, "a", "b", "c")
	here := m.nodes
	gone := []api.Id{{1}, {19: 1}, all(255), sumOf(row{text: "x"}), sumOf(row{text: "never"})}
	good := append([]api.Id{zero}, here...)
	for _, bad := range gone {
		for _, p := range append(good, gone...) {
			want(t, l, row{"x", bad, p}, api.ErrNone)
			want(t, l, row{"x", p, bad}, api.ErrNone)
			want(t, l, row{"", bad, p}, api.ErrNone)
			want(t, l, row{varied(1, api.MaxBody), p, bad}, api.ErrNone)
		}
	}
	hold(t, l, m)
	for _, p1 := range good {
		for _, p2 := range good {
			want(t, l, row{"y", p1, p2}, api.OK)
			m.add(row{"y", p1, p2})
			hold(t, l, m)
		}
	}
	if l.Len() != 3+16 {
		t.Errorf("%d texts", l.Len())
	}
}

// P15.1: a text may be a parent as soon as it is there, and of none that is
// refused.
func TestParentOfNext(t *testing.T) {
	l, m := filled(t)
	refused := sumOf(row{varied(1, api.MaxBody+1), zero, zero})
	for n := range 40 {
		node := sumOf(row{fmt.Sprint(n), zero, zero})
		want(t, l, row{"child", node, zero}, api.ErrNone)
		want(t, l, row{"child", zero, node}, api.ErrNone)
		want(t, l, row{varied(1, api.MaxBody+1), zero, zero}, api.ErrLimit)
		want(t, l, row{"child", refused, zero}, api.ErrNone)
		add(t, l, m, fmt.Sprint(n), zero, zero)
		add(t, l, m, "child", node, zero)
		add(t, l, m, "child", zero, node)
		add(t, l, m, "child", node, node)
		hold(t, l, m)
	}
	if l.Len() != 160 {
		t.Errorf("%d texts", l.Len())
	}
}

// P15.1: the same text with other parents, or with the parents turned round, is
// another one.
func TestOtherParents(t *testing.T) {
	for _, text := range []string{"", "x", varied(1, 40), varied(1, api.MaxBody)} {
		l, m := filled(t, "a", "b")
		a, b := m.nodes[0], m.nodes[1]
		pairs := [][2]api.Id{{zero, zero}, {a, zero}, {zero, a}, {b, zero}, {zero, b}, {a, a}, {a, b}, {b, a}, {b, b}}
		seen := map[api.Id]bool{}
		for _, p := range pairs {
			seen[add(t, l, m, text, p[0], p[1])] = true
			hold(t, l, m)
		}
		if len(seen) != len(pairs) || l.Len() != 2+len(pairs) {
			t.Errorf("%d bytes: %d nodes, %d texts", len(text), len(seen), l.Len())
		}
		for _, p := range pairs {
			want(t, l, row{text, p[0], p[1]}, api.OK)
		}
		hold(t, l, m)
	}
}

// P15.1: bytes of the text are not taken for bytes of a parent, nor the other
// way round.
func TestBorders(t *testing.T) {
	l, m := filled(t, "a")
	a := m.nodes[0]
	name, zeros := string(a[:]), string(zero[:])
	for _, r := range []row{{"", a, zero}, {name, zero, zero}, {"", zero, a}, {zeros, a, zero}, {name, a, zero}, {name + zeros, zero, zero}, {name, zero, a}, {"", a, a}, {zeros, zero, a}, {zeros + name, zero, zero}, {name + name, zero, zero}} {
		add(t, l, m, r.text, r.p1, r.p2)
	}
	hold(t, l, m)
	if l.Len() != 12 {
		t.Errorf("%d texts", l.Len())
	}
}

// P15.1: a text that is there already, with the same parents, as the last one and
// with others behind it.
func TestAgain(t *testing.T) {
	l, m := filled(t)
	var parents []api.Id
	for n := range 30 {
		p1, p2 := zero, zero
		if n > 0 {
			p1 = parents[n/2]
		}
		if n%3 == 2 {
			p2 = parents[n-1]
		}
		node := add(t, l, m, strings.Repeat("text", n%7), p1, p2)
		parents = append(parents, node)
		for range 2 {
			for k, r := range m.rows {
				if got, err := l.Add([]byte(r.text), r.p1, r.p2); got != m.nodes[k] || err != api.OK {
					t.Errorf("the text %d of %d again: %x, error %d", k, n, got, err)
				}
			}
		}
		hold(t, l, m)
	}
	if l.Len() != 30 {
		t.Errorf("%d texts", l.Len())
	}
}

// P15.1: a log has at most MaxChanges texts; one that is there may be added
// again.
func TestFull(t *testing.T) {
	l, m := full(t, 1)
	if l.Len() != api.MaxChanges-1 {
		t.Fatalf("%d texts", l.Len())
	}
	last := row{"the last one", m.nodes[5], m.nodes[7]}
	want(t, l, last, api.OK)
	m.add(last)
	if l.Len() != api.MaxChanges {
		t.Fatalf("%d texts", l.Len())
	}
	for range 2 {
		for _, r := range []row{{"", zero, zero}, {"more", zero, zero}, {"more", m.nodes[0], zero}, {"more", zero, m.nodes[api.MaxChanges-1]}, {"first", m.nodes[0], zero}, {"first", zero, m.nodes[1]}, {"the last one", m.nodes[7], m.nodes[5]}, {varied(1, api.MaxBody), zero, zero}} {
			want(t, l, r, api.ErrLimit)
			holdNone(t, l, sumOf(r), api.ErrNone)
		}
		want(t, l, last, api.OK)
		for n, r := range m.rows {
			if node, err := l.Add([]byte(r.text), r.p1, r.p2); node != m.nodes[n] || err != api.OK {
				t.Errorf("the text %d again: %x, error %d", n, node, err)
			}
		}
	}
	hold(t, l, m)
}

// P15.1: a log has room for MaxChanges texts of MaxBody bytes.
func TestFullOfLongTexts(t *testing.T) {
	l := revlog.New()
	b := []byte(varied(1, api.MaxBody))
	var before api.Id
	for n := range api.MaxChanges {
		b[n*31%len(b)]++
		node, err := l.Add(b, before, zero)
		if err != api.OK || l.Chain(n) != n%(api.MaxChain+1) {
			t.Fatalf("the text %d: error %d, Chain %d", n, err, l.Chain(n))
		}
		before = node
	}
	for n := api.MaxChanges - 1; n >= 0; n-- {
		if n%100 == 99 || n < 20 {
			node, _ := l.Node(n)
			if text, err := l.Text(node); !bytes.Equal(text, b) || err != api.OK {
				t.Fatalf("the text %d: %d bytes, error %d", n, len(text), err)
			}
		}
		b[n*31%len(b)]--
	}
}

// P15.1, R5: where two errors apply or more, the first of the order is told, and
// nothing is added.
func TestFirstError(t *testing.T) {
	var none *revlog.Log
	long, gone := varied(1, api.MaxBody+1), all(9)
	parents := [][2]api.Id{{zero, zero}, {gone, zero}, {zero, gone}, {gone, gone}}
	for _, p := range parents {
		want(t, none, row{long, p[0], p[1]}, api.ErrNil)
		want(t, none, row{"x", p[0], p[1]}, api.ErrNil)
	}
	some, someModel := filled(t, "a", "b")
	whole, wholeModel := full(t, 0)
	for _, l := range []*revlog.Log{revlog.New(), some, whole} {
		before := l.Len()
		for _, p := range parents {
			want(t, l, row{long, p[0], p[1]}, api.ErrLimit)
		}
		for _, p := range parents[1:] {
			want(t, l, row{"x", p[0], p[1]}, api.ErrNone)
			want(t, l, row{varied(1, api.MaxBody), p[0], p[1]}, api.ErrNone)
		}
		if l.Len() != before {
			t.Errorf("%d texts; want %d", l.Len(), before)
		}
	}
	hold(t, some, someModel)
	want(t, whole, row{"x", gone, wholeModel.nodes[3]}, api.ErrNone)
	want(t, whole, row{"x", wholeModel.nodes[3], gone}, api.ErrNone)
	want(t, whole, row{"x", wholeModel.nodes[3], zero}, api.ErrLimit)
	want(t, whole, row{"first", gone, zero}, api.ErrNone)
	hold(t, whole, wholeModel)
}
