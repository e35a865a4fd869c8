package revlog_test

import (
	"bytes"
	"crypto/sha1"
	"encoding/hex"
	"fmt"
	"math"
	"slices"
	"sort"
	"strings"
	"testing"

	"trestle/api"
	"trestle/revlog"
)

// oddNumbers are numbers that no text has, however full the log is, and such as
// wrap round to small ones in fewer bits.
var oddNumbers = []int{math.MinInt, math.MinInt + 1, -1 << 32, -1<<32 + 1, -1 << 31, -1 << 16, -256, -255, -2, -1, api.MaxChanges, api.MaxChanges + 1, 1 << 16, 1<<31 - 1, 1 << 31, 1<<32 - 1, 1 << 32, 1<<32 + 1, 1<<33 + 1, math.MaxInt - 1, math.MaxInt}

// zero is the node that no text has.
var zero api.Id

// row is a text of a log, as it was added.
type row struct {
	text   string
	p1, p2 api.Id
}

// model is what a log has, by the words of the chapter.
type model struct {
	rows   []row
	nodes  []api.Id
	chains []int
	places map[api.Id]int
}

func newModel() *model { return &model{places: map[api.Id]int{}} }

func (m *model) has(node api.Id) bool {
	_, ok := m.places[node]
	return ok
}

// add is what the chapter says of Add, where no two rows have one node.
func (m *model) add(r row) (api.Id, api.Errno) {
	if len(r.text) > api.MaxBody {
		return zero, api.ErrLimit
	}
	if r.p1 != zero && !m.has(r.p1) || r.p2 != zero && !m.has(r.p2) {
		return zero, api.ErrNone
	}
	node := sumOf(r)
	if m.has(node) {
		return node, api.OK
	}
	if len(m.rows) == api.MaxChanges {
		return zero, api.ErrLimit
	}
	m.places[node] = len(m.rows)
	m.chains = append(m.chains, m.nextChain(r.text))
	m.nodes = append(m.nodes, node)
	m.rows = append(m.rows, r)
	return node, api.OK
}

// nextChain is the Chain of a text that is added as the next one.
func (m *model) nextChain(text string) int {
	n := len(m.rows)
	if n == 0 || m.chains[n-1] == api.MaxChain || deltaLen(m.rows[n-1].text, text) >= len(text) {
		return 0
	}
	return m.chains[n-1] + 1
}

// deltaLen is how many bytes the encoded delta of b on a has, by the words of
// the chapter of deltas: the greatest lengths are searched by halves.
func deltaLen(a, b string) int {
	if a == b {
		return 0
	}
	most := min(len(a), len(b))
	from := sort.Search(most, func(n int) bool { return a[:n+1] != b[:n+1] })
	end := sort.Search(most-from, func(n int) bool { return a[len(a)-n-1:] != b[len(b)-n-1:] })
	return 3*4 + len(b) - from - end
}

// sumOf is the node of a row, by other means than the project's.
func sumOf(r row) api.Id {
	return sha1.Sum([]byte(string(r.p1[:]) + string(r.p2[:]) + r.text))
}

// all is an id that has one byte at each place.
func all(b byte) api.Id { return api.Id(bytes.Repeat([]byte{b}, 20)) }

// varied is a text of n bytes, hardly two pieces of which are the same; another
// one for each seed.
func varied(seed uint32, n int) string {
	b := make([]byte, n)
	x := seed*2654435761 + 1
	for i := range b {
		x = x*1664525 + 1013904223
		b[i] = byte(x >> 24)
	}
	return string(b)
}

// add adds a text to a log and to its model, and holds what both answer against
// each other.
func add(t *testing.T, l *revlog.Log, m *model, text string, p1, p2 api.Id) api.Id {
	t.Helper()
	want, wantErr := m.add(row{text, p1, p2})
	node, err := l.Add([]byte(text), p1, p2)
	if node != want || err != wantErr {
		t.Fatalf("Add of %d bytes %.20q, %x, %x: %x, error %d; want %x, error %d", len(text), text, p1, p2, node, err, want, wantErr)
	}
	return node
}

// filled makes a log of some texts without parents, and its model.
func filled(t *testing.T, texts ...string) (*revlog.Log, *model) {
	t.Helper()
	l, m := revlog.New(), newModel()
	for _, s := range texts {
		add(t, l, m, s, zero, zero)
	}
	hold(t, l, m)
	return l, m
}

// hold holds all that a log tells against its model.
func hold(t *testing.T, l *revlog.Log, m *model) {
	t.Helper()
	if l.Len() != len(m.rows) {
		t.Fatalf("Len: %d; want %d", l.Len(), len(m.rows))
	}
	for n := range m.rows {
		holdText(t, l, m, n)
	}
	for _, n := range append([]int{len(m.rows), len(m.rows) + 1}, oddNumbers...) {
		if node, ok := l.Node(n); node != zero || ok {
			t.Errorf("Node(%d) of %d texts: %x, %t", n, len(m.rows), node, ok)
		}
		if l.Chain(n) != -1 {
			t.Errorf("Chain(%d) of %d texts: %d", n, len(m.rows), l.Chain(n))
		}
	}
	for _, node := range []api.Id{zero, {1}, {19: 1}, all(255)} {
		holdNone(t, l, node, api.ErrNone)
	}
}

// holdText holds what a log tells of one text against its model.
func holdText(t *testing.T, l *revlog.Log, m *model, n int) {
	t.Helper()
	want := m.rows[n]
	node, ok := l.Node(n)
	if node != m.nodes[n] || !ok {
		t.Fatalf("Node(%d): %x, %t; want %x", n, node, ok, m.nodes[n])
	}
	if l.Chain(n) != m.chains[n] {
		t.Errorf("Chain(%d): %d; want %d", n, l.Chain(n), m.chains[n])
	}
	if b, err := l.Text(node); string(b) != want.text || err != api.OK {
		t.Errorf("Text of %d: %d bytes %.20q, error %d; want %d bytes %.20q", n, len(b), b, err, len(want.text), want.text)
	}
	if p1, p2, err := l.Parents(node); p1 != want.p1 || p2 != want.p2 || err != api.OK {
		t.Errorf("Parents of %d: %x, %x, error %d; want %x, %x", n, p1, p2, err, want.p1, want.p2)
	}
}

// holdNone holds what a log tells of a node that is not there.
func holdNone(t *testing.T, l *revlog.Log, node api.Id, want api.Errno) {
	t.Helper()
	if b, err := l.Text(node); len(b) != 0 || err != want {
		t.Errorf("Text(%x): %d bytes, error %d; want error %d", node, len(b), err, want)
	}
	if p1, p2, err := l.Parents(node); p1 != zero || p2 != zero || err != want {
		t.Errorf("Parents(%x): %x, %x, error %d; want error %d", node, p1, p2, err, want)
	}
}

// P15.1: nodes that are known, of another program that sums.
func TestKnownNodes(t *testing.T) {
	a, b := all('a'), all('b')
	for _, r := range []struct {
		text   string
		p1, p2 api.Id
		want   string
	}{
		{"", zero, zero, "b80de5d138758541c5f05265ad144ab9fa86d1db"}, {"a", zero, zero, "047b75c6d7a3ef6a2243bd0e99f94f6ea6683597"}, {"abc", zero, zero, "f6d864039d10a8934d0d581d342780298aa9fb28"},
		{"abc", a, zero, "b17a087d3a4bd57d69cc36a6fa89d2dcdcc3e2b1"}, {"abc", zero, a, "1e15dab8d43e55f131ac3f89b5761fb77f82f790"}, {"abc", a, b, "2ab4b494bbedcf2168388fb6774d3bc5458a1767"},
		{"abc", b, a, "a471cfda99fcbabc77337d7f15b0c5e48ae51bd7"}, {"abc", a, a, "cc41fbbf4efd826cb237eb8484272251bff3e93a"}, {"", a, b, "8f20f37b3fef4c356bff95e0d0cc5d1c73c75912"},
		{strings.Repeat("\x00", api.MaxBody), zero, zero, "b61ebcd4d8618be9b7e88f7254634aa1a7e9f0fa"}, {strings.Repeat("\x00", api.MaxBody+1), zero, zero, "197f3b08710474e48e585abde833fa6516fa74a2"},
	} {
		if id := revlog.Node([]byte(r.text), r.p1, r.p2); hex.EncodeToString(id[:]) != r.want {
			t.Errorf("Node of %d bytes %.20q, %x, %x: %x; want %s", len(r.text), r.text, r.p1, r.p2, id, r.want)
		}
	}
}

// P15.1: the node is the sum of the first parent, the second one and the text,
// in this order, whether there is a log that could have them or not.
func TestNodes(t *testing.T) {
	a, b := all('a'), all('b')
	ids := []api.Id{zero, a, b, {0: 1}, {19: 1}, {0: 255, 19: 1}, sumOf(row{}), api.Id([]byte(varied(1, 20)))}
	texts := []string{"", "\x00", "a", "abc", string(a[:]), string(b[:]), string(a[:]) + string(b[:]), "é\n\xff", varied(2, 15), varied(2, 16), varied(2, 23), varied(2, 24), varied(2, 25), varied(2, 64), varied(2, 1000), varied(2, api.MaxBody), varied(2, api.MaxBody+1), varied(2, 2*api.MaxBody)}
	for _, text := range texts {
		for _, p1 := range ids {
			for _, p2 := range ids {
				want := sumOf(row{text, p1, p2})
				if id := revlog.Node([]byte(text), p1, p2); id != want {
					t.Errorf("Node of %d bytes %.20q, %x, %x: %x; want %x", len(text), text, p1, p2, id, want)
				}
			}
		}
	}
	if revlog.Node(nil, a, b) != revlog.Node([]byte{}, a, b) {
		t.Error("a nil text and an empty one have other nodes")
	}
}

// P15.1, P15.2: a new log is empty, and so is one that was not made by New; it
// takes texts.
func TestEmpty(t *testing.T) {
	for _, l := range []*revlog.Log{revlog.New(), {}} {
		m := newModel()
		hold(t, l, m)
		holdNone(t, l, sumOf(row{}), api.ErrNone)
		a := add(t, l, m, "a", zero, zero)
		hold(t, l, m)
		add(t, l, m, "", a, zero)
		hold(t, l, m)
	}
	if revlog.New() == revlog.New() || revlog.New() == nil {
		t.Error("New does not make a log of its own")
	}
}

// P15.2: a nil log.
func TestNil(t *testing.T) {
	var l *revlog.Log
	for _, node := range []api.Id{zero, {1}, sumOf(row{}), sumOf(row{text: "a"})} {
		for _, b := range [][]byte{nil, {}, []byte("a"), make([]byte, api.MaxBody), make([]byte, api.MaxBody+1)} {
			for _, p2 := range []api.Id{zero, {1}} {
				if id, err := l.Add(b, node, p2); id != zero || err != api.ErrNil {
					t.Errorf("Add of %d bytes, %x, %x: %x, error %d", len(b), node, p2, id, err)
				}
			}
		}
		holdNone(t, l, node, api.ErrNil)
	}
	for _, n := range append([]int{0, 1}, oddNumbers...) {
		if node, ok := l.Node(n); node != zero || ok || l.Chain(n) != -1 {
			t.Errorf("Node(%d): %x, %t; Chain: %d", n, node, ok, l.Chain(n))
		}
	}
	if l.Len() != 0 {
		t.Errorf("Len: %d", l.Len())
	}
}

// P15.1, P15.2: a log of which all is known, without the model.
func TestKnown(t *testing.T) {
	l := revlog.New()
	if a, err := l.Add([]byte("a"), zero, zero); hex.EncodeToString(a[:]) != "047b75c6d7a3ef6a2243bd0e99f94f6ea6683597" || err != api.OK || l.Chain(0) != 0 {
		t.Errorf("the example of the chapter: %x, error %d, Chain %d", a, err, l.Chain(0))
	}
	a, _ := l.Node(0)
	long := strings.Repeat("0123456789", 3)
	b, _ := l.Add([]byte(long), a, zero)
	c, _ := l.Add([]byte(long+"x"), a, b)
	d, _ := l.Add([]byte("y"+long+"x"), zero, c)
	for n, r := range []struct {
		node   api.Id
		text   string
		p1, p2 api.Id
		chain  int
	}{{a, "a", zero, zero, 0}, {b, long, a, zero, 0}, {c, long + "x", a, b, 1}, {d, "y" + long + "x", zero, c, 2}} {
		if node, ok := l.Node(n); node != r.node || !ok || l.Chain(n) != r.chain || r.node != revlog.Node([]byte(r.text), r.p1, r.p2) {
			t.Errorf("Node(%d): %x, %t; Chain: %d", n, node, ok, l.Chain(n))
		}
		text, err1 := l.Text(r.node)
		p1, p2, err2 := l.Parents(r.node)
		if string(text) != r.text || p1 != r.p1 || p2 != r.p2 || err1 != api.OK || err2 != api.OK {
			t.Errorf("the text %d: %q, %x, %x, errors %d, %d", n, text, p1, p2, err1, err2)
		}
	}
	if l.Len() != 4 {
		t.Errorf("Len: %d", l.Len())
	}
}

// P15.1: Node and Chain of numbers from below the first text to beyond the last
// one, after each Add.
func TestNumbers(t *testing.T) {
	l, m := filled(t)
	for k := range 30 {
		for n := -5; n < k+5; n++ {
			node, ok := l.Node(n)
			if ok != (n >= 0 && n < k) || ok && node != m.nodes[n] || !ok && node != zero {
				t.Errorf("Node(%d) of %d texts: %x, %t", n, k, node, ok)
			}
			if chain := l.Chain(n); (chain == -1) == ok || ok && chain != m.chains[n] {
				t.Errorf("Chain(%d) of %d texts: %d", n, k, chain)
			}
		}
		add(t, l, m, fmt.Sprint(k), zero, zero)
	}
	hold(t, l, m)
}

// P15.1: nodes that differ from one that is there in one bit are not there.
func TestNearNodes(t *testing.T) {
	l, m := filled(t, "a", "b", varied(1, 100), varied(1, 101))
	for _, node := range m.nodes {
		for bit := range 160 {
			near := node
			near[bit/8] ^= 1 << (bit % 8)
			holdNone(t, l, near, api.ErrNone)
			for _, r := range []row{{"x", near, zero}, {"x", zero, near}} {
				add(t, l, m, r.text, r.p1, r.p2)
			}
		}
	}
	hold(t, l, m)
	if !slices.Equal(m.chains, []int{0, 0, 0, 1}) {
		t.Errorf("the model has the chains %d", m.chains)
	}
}
