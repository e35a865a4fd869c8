package revlog_test

import (
	"bytes"
	"fmt"
	"slices"
	"sync"
	"testing"

	"trestle/api"
	"trestle/revlog"
)

// spoil writes over a slice, and over what it has room for beyond its length.
func spoil(b []byte) {
	b = b[:cap(b)]
	for i := range b {
		b[i] ^= 0x5a
	}
}

// P15.1, R3: what a caller does with a text that was handed in changes nothing,
// and Add and Node leave it as it is.
func TestHandedIn(t *testing.T) {
	l, m := filled(t)
	room := make([]byte, 0, 200)
	for n := range 40 {
		text := varied(1, 100) + fmt.Sprint(n)
		if n%10 == 9 {
			text = varied(uint32(n), 50)
		}
		b := append(room[:0], text...)
		before := bytes.Clone(b[:cap(b)])
		want, _ := m.add(row{text, zero, zero})
		for range 2 {
			if node, err := l.Add(b, zero, zero); node != want || err != api.OK || revlog.Node(b, zero, zero) != want {
				t.Errorf("Add of the text %d: %x, error %d; want %x", n, node, err, want)
			}
		}
		if !bytes.Equal(b[:cap(b)], before) {
			t.Errorf("the text %d has been written to", n)
		}
		spoil(b)
		hold(t, l, m)
	}
}

// P15.1, R3: what a caller does with a text that was handed out changes nothing.
func TestHandedOut(t *testing.T) {
	l, m := filled(t, varied(1, 100), varied(1, 101), varied(1, 102), varied(1, 102)+"x", "", varied(2, 50), "x")
	add(t, l, m, varied(2, 50), m.nodes[0], zero)
	add(t, l, m, varied(2, 50), m.nodes[1], zero) // a delta without edits
	if !slices.Equal(m.chains, []int{0, 1, 2, 3, 0, 0, 0, 0, 1}) {
		t.Fatalf("the model has the chains %d", m.chains)
	}
	for range 2 {
		for _, node := range m.nodes {
			one, _ := l.Text(node)
			two, _ := l.Text(node)
			three := bytes.Clone(two)
			spoil(one)
			if !bytes.Equal(two, three) {
				t.Errorf("two answers share their bytes: %q", two)
			}
			spoil(two)
			hold(t, l, m)
		}
	}
	// What was handed out may be handed in, and spoilt afterwards.
	b, _ := l.Text(m.nodes[3])
	m.add(row{string(b), m.nodes[0], zero})
	if _, err := l.Add(b, m.nodes[0], zero); err != api.OK {
		t.Errorf("Add: error %d", err)
	}
	spoil(b)
	add(t, l, m, varied(1, 102)+"xy", zero, zero)
	hold(t, l, m)
}

// R2: what is done with one log changes no other.
func TestLogsApart(t *testing.T) {
	one, oneModel := filled(t)
	two, twoModel := filled(t)
	for n := range 40 {
		add(t, one, oneModel, varied(1, 50)+fmt.Sprint(n), zero, zero)
		if n%2 == 0 {
			add(t, two, twoModel, varied(1, 50)+fmt.Sprint(n*n), zero, zero)
		}
		if n%3 == 0 {
			add(t, two, twoModel, varied(2, 50)+fmt.Sprint(n), twoModel.nodes[n/3], zero)
		}
		if p := oneModel.nodes[n]; !twoModel.has(p) {
			want(t, two, row{"x", p, zero}, api.ErrNone)
			holdNone(t, two, p, api.ErrNone)
		}
		hold(t, one, oneModel)
		hold(t, two, twoModel)
	}
	hold(t, revlog.New(), newModel())
	// A full log leaves room in another one.
	l, _ := full(t, 0)
	want(t, l, row{"more", zero, zero}, api.ErrLimit)
	add(t, one, oneModel, "more", zero, zero)
	hold(t, one, oneModel)
}

// R2: logs that are used at once are apart, and one that nobody adds to may be
// asked at once.
func TestAtOnce(t *testing.T) {
	shared, sharedModel := full(t, api.MaxChanges-60)
	var group sync.WaitGroup
	for k := range 8 {
		group.Go(func() {
			l, m := revlog.New(), newModel()
			for n := range 60 {
				text := varied(uint32(k), 40) + fmt.Sprint(n)
				want, _ := m.add(row{text, zero, zero})
				if node, err := l.Add([]byte(text), zero, zero); node != want || err != api.OK {
					t.Errorf("Add: %x, error %d; want %x", node, err, want)
				}
			}
			hold(t, l, m)
			hold(t, shared, sharedModel)
		})
	}
	group.Wait()
}

// parentOf picks a parent by a small number: none, one that is not there, the
// first text, or the last one.
func parentOf(m *model, k int) api.Id {
	switch {
	case k == 1:
		return all(7)
	case k == 2 && len(m.nodes) > 0:
		return m.nodes[0]
	case k == 3 && len(m.nodes) > 0:
		return m.nodes[len(m.nodes)-1]
	}
	return zero
}

// P15.1, P15.2: all rows of three calls of a few texts with each kind of parents.
func TestAllShortRows(t *testing.T) {
	a := varied(1, 13)
	texts := []string{"", a, a + "x", a[:12] + "y"}
	choices := len(texts) * 16
	for k := range choices * choices * choices {
		l, m := revlog.New(), newModel()
		for _, x := range []int{k % choices, k / choices % choices, k / choices / choices} {
			add(t, l, m, texts[x%len(texts)], parentOf(m, x/len(texts)%4), parentOf(m, x/len(texts)/4))
		}
		if l.Len() != len(m.rows) {
			t.Fatalf("the row %d: %d texts; want %d", k, l.Len(), len(m.rows))
		}
		for n := range m.rows {
			holdText(t, l, m, n)
		}
		if t.Failed() {
			t.Fatalf("the row %d", k)
		}
	}
}

// P15.1, P15.2: long rows of calls by a rule. A text is three of few pieces, one
// of which is put for another one from call to call, so that many texts are much
// like the one ahead, and some are there already.
func TestLongRows(t *testing.T) {
	pieces := []string{"", "x", "0123456789", varied(1, 30), varied(2, 300), varied(3, 12), varied(3, 13), "abcabcabc"}
	for seed := range uint32(6) {
		l, m := filled(t)
		var now [3]int
		r := []byte(varied(seed+10, 15000))
		for i := 0; i+5 <= len(r); i += 5 {
			now[r[i]%3] = int(r[i+1] >> 5)
			var parents [2]api.Id
			for k := range parents {
				switch x := r[i+2+k]; {
				case x < 20:
					parents[k] = all(x)
				case x < 60 && len(m.nodes) > 0:
					parents[k] = m.nodes[(int(x)*256+int(r[i+4]))%len(m.nodes)]
				}
			}
			add(t, l, m, pieces[now[0]]+pieces[now[1]]+pieces[now[2]], parents[0], parents[1])
			if i%500 == 0 {
				hold(t, l, m)
			}
		}
		hold(t, l, m)
		if !slices.Contains(m.chains, api.MaxChain) || l.Len() < 500 {
			t.Errorf("the row %d has %d texts, the longest chain %d", seed, l.Len(), slices.Max(m.chains))
		}
	}
}
