package graph_test

import (
	"maps"
	"math"
	"slices"
	"sync"
	"testing"

	"trestle/api"
	"trestle/graph"
)

// id makes another id of each number; 0 is the zero id. The first bytes fall
// where the numbers rise, so that the order of the bytes is none of the others.
func id(n int) api.Id {
	if n == 0 {
		return api.Id{}
	}
	return api.Id{0: byte(255 - n>>8), 1: byte(255 - n), 19: byte(n)}
}

// ids makes one of each number.
func ids(l ...int) []api.Id {
	var out []api.Id
	for _, n := range l {
		out = append(out, id(n))
	}
	return out
}

// model is what a graph has, by the words of the chapter.
type model struct {
	order   []api.Id
	parents map[api.Id][]api.Id
}

func newModel() *model { return &model{parents: map[api.Id][]api.Id{}} }

func (m *model) clone() *model {
	return &model{slices.Clone(m.order), maps.Clone(m.parents)}
}

func (m *model) has(id api.Id) bool {
	_, ok := m.parents[id]
	return ok
}

// add is what the chapter says of Add.
func (m *model) add(id api.Id, parents []api.Id) api.Errno {
	if m.has(id) && slices.Equal(m.parents[id], parents) {
		return api.OK
	}
	if m.has(id) {
		return api.ErrTwice
	}
	for _, p := range parents {
		if !m.has(p) {
			return api.ErrNone
		}
	}
	if id == (api.Id{}) {
		return api.ErrArg
	}
	if len(m.order) == api.MaxObjects {
		return api.ErrLimit
	}
	m.order = append(m.order, id)
	m.parents[id] = slices.Clone(parents)
	return api.OK
}

// ancestors are those of the ids that are there, and all that they come from.
func (m *model) ancestors(ids ...api.Id) map[api.Id]bool {
	found := map[api.Id]bool{}
	left := slices.Clone(ids)
	for len(left) > 0 {
		x := left[len(left)-1]
		left = left[:len(left)-1]
		if m.has(x) && !found[x] {
			found[x] = true
			left = append(left, m.parents[x]...)
		}
	}
	return found
}

// those are the nodes of which one thing holds, in the order of the model.
func (m *model) those(holds func(api.Id) bool) []api.Id {
	return slices.DeleteFunc(slices.Clone(m.order), func(id api.Id) bool { return !holds(id) })
}

func (m *model) closure(ids ...api.Id) []api.Id {
	found := m.ancestors(ids...)
	return m.those(func(id api.Id) bool { return found[id] })
}

func (m *model) comes(a, b api.Id) bool {
	return m.has(a) && m.has(b) && m.ancestors(a)[b]
}

func (m *model) heads() []api.Id {
	above := map[api.Id]bool{}
	for _, l := range m.parents {
		for _, p := range l {
			above[p] = true
		}
	}
	return m.those(func(id api.Id) bool { return !above[id] })
}

// row is one call of Add, and what it answers.
type row struct {
	n       int
	parents []int
	want    api.Errno
}

// add adds a node to a graph and to its model, and holds what both answer
// against each other.
func add(t *testing.T, g *graph.Graph, m *model, n int, parents ...int) {
	t.Helper()
	want := m.add(id(n), ids(parents...))
	if err := g.Add(id(n), ids(parents...)...); err != want {
		t.Errorf("Add(%d, %d): error %d; want %d", n, parents, err, want)
	}
}

// filled makes a graph by some calls, and its model.
func filled(t *testing.T, rows ...row) (*graph.Graph, *model) {
	t.Helper()
	g, m := graph.New(), newModel()
	addRows(t, g, m, rows...)
	return g, m
}

// addRows adds some nodes; the rows say what is answered.
func addRows(t *testing.T, g *graph.Graph, m *model, rows ...row) {
	t.Helper()
	for _, r := range rows {
		if err := g.Add(id(r.n), ids(r.parents...)...); err != r.want {
			t.Errorf("Add(%d, %d): error %d; want %d", r.n, r.parents, err, r.want)
		}
		if err := m.add(id(r.n), ids(r.parents...)); err != r.want {
			t.Errorf("the model, add(%d, %d): error %d; want %d", r.n, r.parents, err, r.want)
		}
		hold(t, g, m)
	}
}

// few makes a graph of two roots, a node of both, one of that and a root, one
// that names its parent twice, a child of a root alone, and a third root.
func few(t *testing.T) (*graph.Graph, *model) {
	t.Helper()
	return filled(t, row{1, nil, api.OK}, row{2, nil, api.OK}, row{3, []int{2, 1}, api.OK}, row{4, []int{1, 3}, api.OK}, row{5, []int{4, 4}, api.OK}, row{6, []int{2}, api.OK}, row{7, nil, api.OK})
}

// checkIds holds a list against the one that it has to be.
func checkIds(t *testing.T, what string, got, want []api.Id) {
	t.Helper()
	if !slices.Equal(got, want) {
		t.Errorf("%s: %x; want %x", what, got, want)
	}
}

// hold holds what a graph tells without arguments, and of each node and some
// others alone, against its model.
func hold(t *testing.T, g *graph.Graph, m *model) {
	t.Helper()
	checkIds(t, "Ids", g.Ids(), m.order)
	checkIds(t, "Heads", g.Heads(), m.heads())
	checkIds(t, "Closure of no nodes", g.Closure(), nil)
	checkIds(t, "Missing of no nodes", g.Missing(nil), nil)
	near := id(1)
	near[19]++
	for _, x := range slices.Concat(m.order, []api.Id{{}, id(999), near, {19: 1}}) {
		if g.Has(x) != m.has(x) {
			t.Errorf("Has(%x): %t", x, g.Has(x))
		}
		checkIds(t, "Parents", g.Parents(x), m.parents[x])
		checkIds(t, "Closure", g.Closure(x), m.closure(x))
	}
}

// holdPairs holds what a graph tells of each two ids against its model.
func holdPairs(t *testing.T, g *graph.Graph, m *model) {
	t.Helper()
	l := slices.Concat(m.order, []api.Id{{}, id(999)})
	for _, a := range l {
		for _, b := range l {
			if g.Comes(a, b) != m.comes(a, b) {
				t.Errorf("Comes(%x, %x): %t", a, b, g.Comes(a, b))
			}
			checkIds(t, "Closure of two", g.Closure(a, b), m.closure(a, b))
			want := slices.DeleteFunc(m.closure(a, b), func(x api.Id) bool { return x == b })
			checkIds(t, "Missing", g.Missing(func(x api.Id) bool { return x == b }, a, b), want)
		}
	}
}

// P12.1: a new graph is empty, and so is one that was not made by New.
func TestEmpty(t *testing.T) {
	for _, g := range []*graph.Graph{graph.New(), {}} {
		m := newModel()
		hold(t, g, m)
		holdPairs(t, g, m)
		if l := g.Missing(func(api.Id) bool { t.Error("asked of no node"); return false }, ids(0, 1, 2)...); len(l) != 0 {
			t.Errorf("Missing of an empty graph: %x", l)
		}
		add(t, g, m, 1)
		add(t, g, m, 2, 1)
		hold(t, g, m)
		holdPairs(t, g, m)
	}
}

// P12.1, P12.2: a nil graph.
func TestNil(t *testing.T) {
	var g *graph.Graph
	have := func(api.Id) bool { t.Error("asked of no node"); return false }
	for _, a := range ids(0, 1, 2) {
		for _, l := range [][]api.Id{nil, {}, ids(0), ids(1), ids(1, 1), ids(2, 1), ids(0, 9)} {
			if err := g.Add(a, l...); err != api.ErrNil {
				t.Errorf("Add(%x, %x): error %d", a, l, err)
			}
			if n := len(g.Closure(l...)) + len(g.Missing(nil, l...)) + len(g.Missing(have, l...)); n != 0 {
				t.Errorf("Closure and Missing of %x: %d nodes", l, n)
			}
		}
		if g.Has(a) || len(g.Parents(a)) != 0 || g.Comes(a, a) || g.Comes(a, id(1)) || g.Comes(id(2), a) {
			t.Errorf("a nil graph has %x", a)
		}
	}
	if len(g.Ids())+len(g.Heads()) != 0 {
		t.Errorf("Ids: %x; Heads: %x", g.Ids(), g.Heads())
	}
}

// P12.1, P12.2: graphs of which all is known, without the model.
func TestKnown(t *testing.T) {
	g, m := few(t)
	hold(t, g, m)
	holdPairs(t, g, m)
	checkIds(t, "Ids", g.Ids(), ids(1, 2, 3, 4, 5, 6, 7))
	checkIds(t, "Heads", g.Heads(), ids(5, 6, 7))
	for _, r := range []struct{ of, parents, closure []int }{
		{[]int{1}, nil, []int{1}}, {[]int{2}, nil, []int{2}}, {[]int{3}, []int{2, 1}, []int{1, 2, 3}}, {[]int{4}, []int{1, 3}, []int{1, 2, 3, 4}},
		{[]int{5}, []int{4, 4}, []int{1, 2, 3, 4, 5}}, {[]int{6}, []int{2}, []int{2, 6}}, {[]int{7}, nil, []int{7}}, {[]int{0}, nil, nil}, {[]int{8}, nil, nil},
	} {
		checkIds(t, "Parents", g.Parents(id(r.of[0])), ids(r.parents...))
		checkIds(t, "Closure", g.Closure(id(r.of[0])), ids(r.closure...))
	}
	example := graph.New()
	if example.Add(id(1)) != api.OK || example.Add(id(2), id(1)) != api.OK {
		t.Error("the example of the chapter is refused")
	}
	checkIds(t, "Closure of the example", example.Closure(id(2)), ids(1, 2))
}

// P12.1: nodes with any number of parents, also far more than a commit has.
func TestNumberOfParents(t *testing.T) {
	var all []int
	g, m := filled(t)
	for n := 1; n <= 300; n++ {
		add(t, g, m, n, all...)
		checkIds(t, "Parents", g.Parents(id(n)), ids(all...))
		add(t, g, m, n, all...)
		if n%2 == 0 {
			all = append(all, n)
		} else {
			all = append([]int{n}, all...)
		}
	}
	hold(t, g, m)
	checkIds(t, "Heads", g.Heads(), ids(300))
}

// P12.1: a node that is there may be added with its own parents alone.
func TestAddAgain(t *testing.T) {
	g, m := filled(t, row{1, nil, api.OK}, row{2, nil, api.OK}, row{3, nil, api.OK}, row{4, []int{1}, api.OK}, row{5, []int{2, 1}, api.OK}, row{6, []int{1, 2, 3}, api.OK}, row{7, []int{1, 2, 1}, api.OK})
	addRows(t, g, m,
		row{1, nil, api.OK}, row{1, []int{}, api.OK}, row{1, []int{2}, api.ErrTwice}, row{1, []int{2, 3}, api.ErrTwice},
		row{4, []int{1}, api.OK}, row{4, nil, api.ErrTwice}, row{4, []int{2}, api.ErrTwice}, row{4, []int{1, 1}, api.ErrTwice}, row{4, []int{1, 2}, api.ErrTwice}, row{4, []int{2, 1}, api.ErrTwice}, row{4, []int{5}, api.ErrTwice},
		row{5, []int{2, 1}, api.OK}, row{5, nil, api.ErrTwice}, row{5, []int{1, 2}, api.ErrTwice}, row{5, []int{2}, api.ErrTwice}, row{5, []int{1}, api.ErrTwice}, row{5, []int{2, 1, 1}, api.ErrTwice}, row{5, []int{2, 2, 1}, api.ErrTwice}, row{5, []int{2, 3}, api.ErrTwice}, row{5, []int{3, 1}, api.ErrTwice},
		row{6, []int{1, 2, 3}, api.OK}, row{6, []int{1, 3, 2}, api.ErrTwice}, row{6, []int{2, 1, 3}, api.ErrTwice}, row{6, []int{3, 2, 1}, api.ErrTwice}, row{6, []int{2, 3, 1}, api.ErrTwice}, row{6, []int{1, 2}, api.ErrTwice}, row{6, []int{2, 3}, api.ErrTwice}, row{6, []int{1, 2, 3, 4}, api.ErrTwice}, row{6, []int{1, 2, 4}, api.ErrTwice},
		row{7, []int{1, 2, 1}, api.OK}, row{7, []int{1, 1, 2}, api.ErrTwice}, row{7, []int{1, 2}, api.ErrTwice}, row{7, []int{2, 1}, api.ErrTwice}, row{7, []int{1, 2, 2}, api.ErrTwice}, row{7, []int{1, 2, 1, 2}, api.ErrTwice},
	)
	if err := g.Add(id(1), nil...); err != api.OK {
		t.Errorf("Add with a nil list: error %d", err)
	}
	checkIds(t, "Ids", g.Ids(), ids(1, 2, 3, 4, 5, 6, 7))
}

// P12.1: each parent has to be there, and no node is ahead of itself.
func TestParentsThatAreNotThere(t *testing.T) {
	g, m := filled(t, row{1, []int{1}, api.ErrNone}, row{1, []int{2}, api.ErrNone}, row{1, []int{0}, api.ErrNone}, row{1, nil, api.OK}, row{2, nil, api.OK})
	for _, bad := range []int{0, 3, 4, 999} {
		for _, parents := range [][]int{{bad}, {bad, bad}, {bad, 1}, {1, bad}, {1, 2, bad}, {1, bad, 2}, {bad, 1, 2}, {1, 1, bad}} {
			addRows(t, g, m, row{3, parents, api.ErrNone}, row{3, parents, api.ErrNone})
		}
	}
	addRows(t, g, m, row{3, []int{2, 1}, api.OK}, row{4, []int{3}, api.OK})
	holdPairs(t, g, m)
}

// P12.1: the zero id is no node.
func TestZeroId(t *testing.T) {
	g, m := filled(t, row{0, nil, api.ErrArg}, row{0, []int{0}, api.ErrNone}, row{1, nil, api.OK}, row{0, nil, api.ErrArg}, row{0, []int{1}, api.ErrArg}, row{0, []int{1, 1}, api.ErrArg}, row{0, nil, api.ErrArg}, row{2, []int{0}, api.ErrNone}, row{2, []int{1}, api.OK})
	if g.Has(id(0)) || g.Comes(id(0), id(0)) || g.Comes(id(1), id(0)) || g.Comes(id(0), id(1)) {
		t.Error("the zero id is there")
	}
	// An id is not the zero one for its first or its last byte alone.
	for i := range 20 {
		x := api.Id{}
		x[i] = 1
		if err := g.Add(x, id(1)); err != api.OK || m.add(x, ids(1)) != api.OK {
			t.Errorf("Add(%x): error %d", x, err)
		}
	}
	hold(t, g, m)
	holdPairs(t, g, m)
}

// P12.1: ids that differ in one bit are others.
func TestNearIds(t *testing.T) {
	g, m := filled(t)
	for bit := range 160 {
		x := id(1)
		x[bit/8] ^= 1 << (bit % 8)
		parents := slices.Clone(m.order[max(0, bit-2):])
		if err := g.Add(x, parents...); err != api.OK || m.add(x, parents) != api.OK {
			t.Errorf("Add(%x): error %d", x, err)
		}
	}
	hold(t, g, m)
	if g.Has(id(1)) || len(g.Ids()) != 160 {
		t.Errorf("%d nodes; %t", len(g.Ids()), g.Has(id(1)))
	}
}

// P12.1: a parent may be named twice, and is told as often.
func TestParentNamedTwice(t *testing.T) {
	g, m := filled(t, row{1, nil, api.OK}, row{2, nil, api.OK}, row{3, []int{1, 1}, api.OK}, row{4, []int{2, 1, 2}, api.OK}, row{5, []int{4, 4, 4, 3, 3}, api.OK})
	checkIds(t, "Parents", g.Parents(id(3)), ids(1, 1))
	checkIds(t, "Parents", g.Parents(id(4)), ids(2, 1, 2))
	checkIds(t, "Parents", g.Parents(id(5)), ids(4, 4, 4, 3, 3))
	checkIds(t, "Closure", g.Closure(id(5)), ids(1, 2, 3, 4, 5))
	checkIds(t, "Heads", g.Heads(), ids(5))
	holdPairs(t, g, m)
}

// full makes a graph with as many nodes as may be but some, and its model: two
// roots, and children of the two nodes ahead of them.
func full(t *testing.T, but int) (*graph.Graph, *model) {
	t.Helper()
	g, m := filled(t, row{1, nil, api.OK}, row{2, nil, api.OK})
	for n := 3; n <= api.MaxObjects-but; n++ {
		add(t, g, m, n, n-1, n-2)
	}
	return g, m
}

// P12.1: a graph has at most MaxObjects nodes; one that is there may be added
// again. Each node has two parents: there are more ways up than can be gone.
func TestFull(t *testing.T) {
	g, m := full(t, 1)
	add(t, g, m, api.MaxObjects, 1)
	if len(g.Ids()) != api.MaxObjects {
		t.Fatalf("%d nodes", len(g.Ids()))
	}
	for range 2 {
		for n := api.MaxObjects + 1; n < api.MaxObjects+4; n++ {
			for _, parents := range [][]int{nil, {1}, {n - 5}, {2, 1}} {
				if err := g.Add(id(n), ids(parents...)...); err != api.ErrLimit {
					t.Errorf("Add(%d, %d) where all are: error %d", n, parents, err)
				}
			}
		}
		for n := 3; n < api.MaxObjects; n++ {
			add(t, g, m, n, n-1, n-2)
		}
		add(t, g, m, 1)
		add(t, g, m, api.MaxObjects, 1)
	}
	checkIds(t, "Ids", g.Ids(), m.order)
	checkIds(t, "Heads", g.Heads(), ids(api.MaxObjects-1, api.MaxObjects))
	checkIds(t, "Closure of the last", g.Closure(id(api.MaxObjects)), ids(1, api.MaxObjects))
	checkIds(t, "Closure of the last but one", g.Closure(id(api.MaxObjects-1)), m.order[:api.MaxObjects-1])
	checkIds(t, "Closure of all", g.Closure(m.order...), m.order)
	checkIds(t, "Missing of all", g.Missing(func(x api.Id) bool { return x != id(2) && x != id(4000) }, m.order...), ids(2, 4000))
	for n := 1; n < api.MaxObjects; n += 97 {
		if !g.Comes(id(api.MaxObjects-1), id(n)) || g.Comes(id(n), id(api.MaxObjects-1)) || g.Comes(id(api.MaxObjects), id(n)) != (n == 1) {
			t.Errorf("the node %d and the last two", n)
		}
	}
}

// P12.1: a row of nodes, each the parent of the next, as long as may be.
func TestLongest(t *testing.T) {
	g, m := filled(t, row{1, nil, api.OK})
	for n := 2; n <= api.MaxObjects; n++ {
		add(t, g, m, n, n-1)
	}
	checkIds(t, "Ids", g.Ids(), m.order)
	checkIds(t, "Heads", g.Heads(), ids(api.MaxObjects))
	for _, n := range []int{1, 2, 2500, api.MaxObjects - 1, api.MaxObjects} {
		checkIds(t, "Closure", g.Closure(id(n)), m.order[:n])
		if !g.Comes(id(api.MaxObjects), id(n)) || !g.Comes(id(n), id(1)) || g.Comes(id(1), id(n)) != (n == 1) {
			t.Errorf("the node %d, the first and the last", n)
		}
	}
}

// P12.1, R5: where two errors apply or more, the first of the order is told.
func TestFirstError(t *testing.T) {
	var none *graph.Graph
	addRows := func(g *graph.Graph, rows ...row) {
		t.Helper()
		before := g.Ids()
		for _, r := range rows {
			if err := g.Add(id(r.n), ids(r.parents...)...); err != r.want {
				t.Errorf("Add(%d, %d): error %d; want %d", r.n, r.parents, err, r.want)
			}
		}
		checkIds(t, "Ids", g.Ids(), before)
	}
	// A nil graph has no node: nothing is twice there, and no limit is met.
	addRows(none, row{0, nil, api.ErrNil}, row{1, []int{2}, api.ErrNil}, row{0, []int{0}, api.ErrNil})
	g, m := few(t)
	// Twice, and a parent that is not there, at each place.
	addRows(g, row{4, []int{9}, api.ErrTwice}, row{4, []int{1, 9}, api.ErrTwice}, row{4, []int{9, 3}, api.ErrTwice}, row{4, []int{1, 3, 9}, api.ErrTwice}, row{4, []int{4}, api.ErrTwice}, row{4, []int{0}, api.ErrTwice}, row{1, []int{9}, api.ErrTwice}, row{1, []int{1}, api.ErrTwice}, row{1, []int{0}, api.ErrTwice}, row{4, []int{1, 0}, api.ErrTwice}, row{4, []int{0, 3}, api.ErrTwice})
	// A parent that is not there, and the zero id.
	addRows(g, row{0, []int{9}, api.ErrNone}, row{0, []int{0}, api.ErrNone}, row{0, []int{1, 9}, api.ErrNone}, row{0, []int{9, 1}, api.ErrNone}, row{0, []int{1}, api.ErrArg})
	hold(t, g, m)
	g, _ = full(t, 0)
	more := api.MaxObjects + 1
	// The limit, and each of the others.
	addRows(g, row{4, []int{1}, api.ErrTwice}, row{4, nil, api.ErrTwice}, row{4, []int{more}, api.ErrTwice}, row{4, []int{3, 0}, api.ErrTwice}, row{more, []int{more}, api.ErrNone}, row{more, []int{0}, api.ErrNone}, row{more, []int{1, more + 1}, api.ErrNone}, row{0, nil, api.ErrArg}, row{0, []int{1}, api.ErrArg}, row{0, []int{more}, api.ErrNone}, row{0, []int{0}, api.ErrNone}, row{more, nil, api.ErrLimit}, row{more, []int{1}, api.ErrLimit}, row{4, []int{3, 2}, api.OK})
}

// P12.1: what is no parent of any node, before and after it gets a child.
func TestHeads(t *testing.T) {
	g, m := filled(t)
	for _, r := range []struct {
		n             int
		parents, want []int
	}{
		{3, nil, []int{3}}, {1, nil, []int{3, 1}}, {2, nil, []int{3, 1, 2}}, {9, []int{1}, []int{3, 2, 9}}, {4, []int{1}, []int{3, 2, 9, 4}}, {5, []int{4, 3}, []int{2, 9, 5}},
		{5, []int{3, 4}, []int{2, 9, 5}}, {6, []int{9, 8}, []int{2, 9, 5}}, {0, []int{9}, []int{2, 9, 5}}, {6, []int{1, 3}, []int{2, 9, 5, 6}}, {7, []int{9, 9}, []int{2, 5, 6, 7}}, {8, []int{7, 6, 5, 2}, []int{8}}, {8, []int{7, 6, 5, 2}, []int{8}},
	} {
		add(t, g, m, r.n, r.parents...)
		checkIds(t, "Heads", g.Heads(), ids(r.want...))
		hold(t, g, m)
	}
}

// P12.1: the order of Ids and of Heads is that of the calls, not of the bytes,
// and parents are ahead of their children.
func TestOrder(t *testing.T) {
	for _, l := range [][]int{{1, 2, 3, 4, 5, 6}, {6, 5, 4, 3, 2, 1}, {3, 6, 1, 5, 2, 4}, {300, 2, 257, 1, 256, 255}} {
		g, m := filled(t)
		for _, n := range l {
			add(t, g, m, n)
			add(t, g, m, l[0])
		}
		checkIds(t, "Ids", g.Ids(), ids(l...))
		checkIds(t, "Heads", g.Heads(), ids(l...))
		back := slices.Clone(l)
		slices.Reverse(back)
		checkIds(t, "Closure", g.Closure(ids(back...)...), ids(l...))
		checkIds(t, "Missing", g.Missing(nil, ids(back...)...), ids(l...))
	}
	g, _ := full(t, 4000)
	all := g.Ids()
	for i, x := range all {
		for _, p := range g.Parents(x) {
			if k := slices.Index(all, p); k < 0 || k >= i {
				t.Errorf("the node %d has a parent at the place %d", i, k)
			}
		}
	}
}

// P12.2: Closure of several nodes, also of ones that are not there.
func TestClosure(t *testing.T) {
	g, m := few(t)
	for _, r := range []struct{ of, want []int }{
		{nil, nil}, {[]int{9}, nil}, {[]int{0}, nil}, {[]int{9, 8, 0}, nil}, {[]int{1, 1}, []int{1}}, {[]int{3, 3, 3}, []int{1, 2, 3}}, {[]int{3, 1}, []int{1, 2, 3}}, {[]int{2, 1}, []int{1, 2}}, {[]int{6, 1}, []int{1, 2, 6}},
		{[]int{6, 3}, []int{1, 2, 3, 6}}, {[]int{7, 6}, []int{2, 6, 7}}, {[]int{7, 9, 1}, []int{1, 7}}, {[]int{9, 7}, []int{7}}, {[]int{7, 9}, []int{7}}, {[]int{0, 6, 0, 7, 0}, []int{2, 6, 7}}, {[]int{5, 6, 7}, []int{1, 2, 3, 4, 5, 6, 7}}, {[]int{7, 6, 5, 4, 3, 2, 1, 0}, []int{1, 2, 3, 4, 5, 6, 7}},
	} {
		checkIds(t, "Closure", g.Closure(ids(r.of...)...), ids(r.want...))
		checkIds(t, "Missing with nil", g.Missing(nil, ids(r.of...)...), ids(r.want...))
		checkIds(t, "the model", m.closure(ids(r.of...)...), ids(r.want...))
	}
	hold(t, g, m)
}

// P12.2: Missing asks of each node of Closure, in its order, and once.
func TestMissing(t *testing.T) {
	g, m := few(t)
	for _, of := range [][]int{nil, {9}, {0, 9}, {1}, {3}, {5}, {6, 5}, {5, 6, 7}, {7, 3, 3, 9}} {
		closure := m.closure(ids(of...)...)
		for there := range 1 << 8 {
			var asked []api.Id
			have := func(x api.Id) bool {
				asked = append(asked, x)
				return there&(1<<x[19]) != 0
			}
			got := g.Missing(have, ids(of...)...)
			want := slices.DeleteFunc(slices.Clone(closure), func(x api.Id) bool { return there&(1<<x[19]) != 0 })
			checkIds(t, "Missing", got, want)
			checkIds(t, "the nodes that were asked of", asked, closure)
		}
	}
	checkIds(t, "Missing of what has none", g.Missing(func(api.Id) bool { return false }, ids(4, 9)...), ids(1, 2, 3, 4))
	checkIds(t, "Missing of what has all", g.Missing(func(api.Id) bool { return true }, ids(4)...), nil)
	// A node that is there may have ancestors that are missing.
	checkIds(t, "Missing", g.Missing(func(x api.Id) bool { return x == id(4) || x == id(3) }, id(5)), ids(1, 2, 5))
	checkIds(t, "Missing what another graph has not", g.Missing(graph.New().Has, id(3)), ids(1, 2, 3))
	checkIds(t, "Missing what it has itself", g.Missing(g.Has, id(3)), nil)
	hold(t, g, m)
}

// P12.2, R1: a function that panics answers not false, and Missing goes on.
func TestMissingPanics(t *testing.T) {
	g, m := few(t)
	for _, fault := range []any{"fault", nil, math.Pi} {
		have := func(x api.Id) bool {
			if x == id(2) || x == id(5) {
				panic(fault)
			}
			return x == id(4)
		}
		checkIds(t, "Missing", g.Missing(have, id(5)), ids(1, 3))
		checkIds(t, "Missing", g.Missing(func(api.Id) bool { panic(fault) }, id(5)), nil)
	}
	hold(t, g, m)
}

// P12.2: a function may itself work on the graph; the nodes are those that were
// there at the call.
func TestMissingFromInside(t *testing.T) {
	g, m := few(t)
	l := ids(5, 9, 8)
	n := 0
	have := func(x api.Id) bool {
		n++
		clear(l)
		add(t, g, m, 100+n, 5)
		add(t, g, m, 7+n)
		return len(g.Missing(nil, x)) == 1 || g.Comes(x, id(4))
	}
	checkIds(t, "Missing", g.Missing(have, l...), ids(3))
	if n != 5 {
		t.Errorf("asked %d times; want 5", n)
	}
	hold(t, g, m)
}

// P12.2: Comes of a node and itself, its parents, what is above and beside them.
func TestComes(t *testing.T) {
	g, m := few(t)
	for _, r := range []struct {
		a, b int
		want bool
	}{
		{1, 1, true}, {5, 5, true}, {7, 7, true}, {3, 2, true}, {3, 1, true}, {4, 3, true}, {4, 1, true}, {5, 4, true}, {6, 2, true}, {4, 2, true}, {5, 1, true}, {5, 2, true}, {5, 3, true},
		{1, 3, false}, {2, 3, false}, {3, 4, false}, {1, 5, false}, {4, 5, false}, {2, 6, false}, {1, 2, false}, {2, 1, false}, {6, 1, false}, {6, 3, false}, {3, 6, false}, {5, 6, false}, {6, 5, false}, {7, 1, false}, {1, 7, false}, {7, 5, false},
		{9, 9, false}, {9, 1, false}, {1, 9, false}, {0, 0, false}, {0, 1, false}, {1, 0, false}, {5, 0, false}, {8, 9, false},
	} {
		if g.Comes(id(r.a), id(r.b)) != r.want {
			t.Errorf("Comes(%d, %d): %t", r.a, r.b, !r.want)
		}
		if m.comes(id(r.a), id(r.b)) != r.want {
			t.Errorf("the model, comes(%d, %d): %t", r.a, r.b, !r.want)
		}
	}
}

// R3: what is handed in stays as it was, beyond its length too, and may be
// changed behind the call.
func TestHandedIn(t *testing.T) {
	room := ids(2, 1, 3, 7, 7, 7)
	before := slices.Clone(room)
	g, m := few(t)
	for n := range 4 {
		g.Add(id(20+n), room[:n]...)
		m.add(id(20+n), ids(2, 1, 3)[:n])
		g.Add(id(20+n), room[:n]...)
		g.Add(id(1), room[:n]...)
		g.Add(id(0), room[:n]...)
		g.Closure(room[:n]...)
		g.Missing(nil, room[:n]...)
		g.Missing(g.Has, room[:n]...)
		checkIds(t, "what was handed in", room, before)
	}
	all := g.Closure(room...)
	missing := g.Missing(nil, room...)
	for i := range room {
		room[i] = id(9)
	}
	hold(t, g, m)
	checkIds(t, "Closure", all, ids(1, 2, 3, 7))
	checkIds(t, "Missing", missing, ids(1, 2, 3, 7))
	add(t, g, m, 23, 2, 1, 3)
}

// R3: what was handed out may be changed, and the graph has what it had.
func TestHandedOut(t *testing.T) {
	g, m := few(t)
	lists := func() [][]api.Id {
		l := [][]api.Id{g.Ids(), g.Heads(), g.Closure(id(5)), g.Closure(m.order...), g.Missing(nil, id(5)), g.Missing(nil, m.order...), g.Missing(func(x api.Id) bool { return x == id(2) }, id(5)), g.Missing(func(api.Id) bool { return false }, m.order...)}
		for _, x := range m.order {
			l = append(l, g.Parents(x))
		}
		return l
	}
	want := lists()
	for range 2 {
		for i, l := range lists() {
			checkIds(t, "a list", l, want[i])
			l = append(l, id(9))
			clear(l[:cap(l)])
		}
		hold(t, g, m)
		holdPairs(t, g, m)
	}
	a, b := lists(), lists()
	for i := range a {
		clear(a[i])
		checkIds(t, "a list beside one that was changed", b[i], want[i])
	}
	add(t, g, m, 8, 5, 6)
	for i := range b {
		checkIds(t, "a list, when a node was added", b[i], want[i])
	}
}

// R2: what is added to one graph is in no other.
func TestGraphsApart(t *testing.T) {
	a, ma := few(t)
	b, mb := filled(t)
	add(t, b, mb, 2)
	add(t, b, mb, 1, 2)
	add(t, a, ma, 8, 1)
	add(t, b, mb, 8)
	add(t, b, mb, 3, 8)
	hold(t, a, ma)
	hold(t, b, mb)
	hold(t, graph.New(), newModel())
}

// lists are all lists of at most n of the numbers below high.
func lists(n, high int) [][]int {
	all, last := [][]int{nil}, [][]int{nil}
	for range n {
		var next [][]int
		for _, l := range last {
			for k := range high {
				next = append(next, append(slices.Clone(l), k))
			}
		}
		all, last = append(all, next...), next
	}
	return all
}

// replay makes the graph of a model anew.
func replay(t *testing.T, m *model) *graph.Graph {
	t.Helper()
	g := graph.New()
	for _, x := range m.order {
		if err := g.Add(x, m.parents[x]...); err != api.OK {
			t.Fatalf("a node that was there: error %d", err)
		}
	}
	return g
}

// P12.1, P12.2: all rows of four calls of Add with few ids, held against a model.
func TestRowsOfCalls(t *testing.T) {
	parents := lists(2, 5)
	var walk func(m *model, left int)
	walk = func(m *model, left int) {
		for n := range 5 {
			for _, l := range parents {
				g, next := replay(t, m), m.clone()
				add(t, g, next, n, l...)
				checkIds(t, "Ids", g.Ids(), next.order)
				if len(next.order) == len(m.order) {
					continue // what has changed nothing is held against the model once, below
				}
				if hold(t, g, next); left > 1 {
					walk(next, left-1)
				} else {
					holdPairs(t, g, next)
				}
			}
		}
	}
	walk(newModel(), 4)
}

// P12.1, P12.2: long rows of calls on several graphs, held against models.
func TestLongRows(t *testing.T) {
	for _, width := range []int{3, 10, 100} {
		g, m := filled(t)
		x := uint32(width)
		next := func(n int) int {
			x = x*1664525 + 1013904223
			return int(x>>16) % n
		}
		for n := 1; n < 300; n++ {
			var parents []int
			for range next(4) {
				parents = append(parents, max(next(20)/19, n-1-next(width)))
			}
			add(t, g, m, n, parents...)
			add(t, g, m, next(n+2), parents...)
			of := ids(next(n+2), next(n+2), next(n+2))
			checkIds(t, "Closure", g.Closure(of...), m.closure(of...))
			if g.Comes(of[0], of[1]) != m.comes(of[0], of[1]) {
				t.Errorf("Comes(%x, %x): %t", of[0], of[1], g.Comes(of[0], of[1]))
			}
		}
		hold(t, g, m)
	}
}

// R2: graphs at the same time do not meet, and many may ask one graph.
func TestAtTheSameTime(t *testing.T) {
	shared, ms := few(t)
	var group sync.WaitGroup
	for n := range 8 {
		group.Go(func() {
			g, m := few(t)
			for k := range 30 {
				add(t, g, m, 10+k, 1+(k+n)%(9+k), 1+k%6)
			}
			hold(t, g, m)
			hold(t, shared, ms)
			holdPairs(t, shared, ms)
		})
	}
	group.Wait()
	hold(t, shared, ms)
}
