package flat_test

import (
	"fmt"
	"slices"
	"strings"
	"testing"

	"trestle/api"
	"trestle/flat"
	"trestle/object"
	"trestle/objects"
	"trestle/tree"
)

// gone is the id of an object that is in no store.
var gone = api.Id{0: 9, 19: 9}

func of(mode int, name string, id api.Id) api.Item { return api.Item{Mode: mode, Name: name, Id: id} }

func leaf(name string) api.Item { return of(api.ModeFile, name, api.Id{7}) }

func dir(name string, id api.Id) api.Item { return of(api.ModeTree, name, id) }

// grow puts a tree of items, in whatever order, into a store.
func grow(t *testing.T, s *objects.Store, l ...api.Item) api.Id {
	t.Helper()
	l = slices.Clone(l)
	slices.SortFunc(l, func(a, b api.Item) int {
		if tree.Before(a, b) {
			return -1
		}
		return 1
	})
	body, err := tree.Print(l)
	if err != api.OK {
		t.Fatalf("Print of %d items: error %d", len(l), err)
	}
	return put(t, s, api.Object{Kind: api.Tree, Body: body})
}

// leaves are items of n files.
func leaves(n int) []api.Item {
	var l []api.Item
	for i := range n {
		l = append(l, of(api.ModeFile+i%3, fmt.Sprintf("%04d", i), idOf(i)))
	}
	return l
}

// nest puts a tree into n others, each in the next one.
func nest(t *testing.T, s *objects.Store, id api.Id, n int) api.Id {
	t.Helper()
	for range n {
		id = grow(t, s, dir("n", id))
	}
	return id
}

// step is what a walk has still to look at.
type step struct {
	path string
	mode int
	id   api.Id
}

// walked is what the chapter says of Read, with a list of what is still to be
// looked at.
func walked(s *objects.Store, root api.Id) ([]api.File, api.Errno) {
	if root == sumOf(nil) {
		return nil, api.OK
	}
	var found []api.File
	todo := []step{{mode: api.ModeTree, id: root}}
	for len(todo) > 0 {
		x := todo[0]
		todo = todo[1:]
		if x.path != "" && !goodPath(x.path) {
			return nil, api.ErrForm
		}
		if x.mode != api.ModeTree {
			if len(found) == 500 {
				return nil, api.ErrLimit
			}
			found = append(found, api.File{Path: x.path, Mode: x.mode, Id: x.id})
			continue
		}
		items, err := s.Tree(x.id)
		if err != api.OK {
			return nil, err
		}
		if len(items) == 0 {
			return nil, api.ErrForm
		}
		var inner []step
		for _, y := range items {
			inner = append(inner, step{strings.TrimPrefix(x.path+"/"+y.Name, "/"), y.Mode, y.Id})
		}
		todo = append(inner, todo...)
	}
	return sorted(found), api.OK
}

// holdRead holds what Read answers against the chapter, and tells it; files
// that it tells are held against what Right and Write say of them.
func holdRead(t *testing.T, s *objects.Store, id api.Id) ([]api.File, api.Errno) {
	t.Helper()
	want, wantErr := walked(s, id)
	l, err := flat.Read(s, id)
	if err != wantErr || !slices.Equal(l, want) {
		t.Errorf("Read: %s, error %d; want %s, error %d", told(l), err, told(want), wantErr)
		return l, err
	}
	if err != api.OK {
		return l, err
	}
	if !flat.Right(l) {
		t.Errorf("Read tells what is not right: %s", told(l))
	}
	for _, other := range []*objects.Store{s.Fork(), objects.New()} {
		if back, err := flat.Write(other, l); back != id || err != api.OK {
			t.Errorf("Write of what Read told, %s: %x, error %d; want %x", told(l), back, err, id)
		}
	}
	return l, err
}

// reads expects the files of a tree.
func reads(t *testing.T, s *objects.Store, id api.Id, want ...api.File) {
	t.Helper()
	if l, err := holdRead(t, s, id); err != api.OK || !slices.Equal(l, want) {
		t.Errorf("Read: %s, error %d; want %s", told(l), err, told(want))
	}
}

// refuses expects an error and nothing beside it.
func refuses(t *testing.T, s *objects.Store, id api.Id, want api.Errno) {
	t.Helper()
	if l, err := holdRead(t, s, id); err != want || len(l) != 0 {
		t.Errorf("Read: %d files, error %d; want the error %d alone", len(l), err, want)
	}
}

// P13.1: the files of a tree that is known from elsewhere, in the order of
// their paths.
func TestReadKnown(t *testing.T) {
	hi, none := known(t, "32f95c0d1244a78b2be1bab8de17906fabb2c4a8"), known(t, "e69de29bb2d1d6434b8b29ae775ad8c2e48c5391")
	s := objects.New()
	e := grow(t, s, of(1, "f", none), of(2, "g", hi))
	d := grow(t, s, dir("e", e), of(1, "g", hi))
	root := grow(t, s, of(1, "a", hi), of(2, "a.b", none), dir("a0", grow(t, s, of(1, "b", hi))), dir("d-", grow(t, s, of(3, "x", hi))), dir("d", d), of(1, "d.x", hi), of(1, "d0", hi), dir("é", grow(t, s, of(1, "日本", hi))))
	if root != known(t, "b4b9c81d567c778a9c50344e7d6ff83f509aa4f1") || e != known(t, "6dc763142f4ac653a443094f9b18ad580aeee975") {
		t.Fatalf("the trees of the test are not those that are known: %x, %x", root, e)
	}
	reads(t, s, root, knownFiles(hi, none)...)
	reads(t, s, d, api.File{Path: "e/f", Mode: 1, Id: none}, api.File{Path: "e/g", Mode: 2, Id: hi}, api.File{Path: "g", Mode: 1, Id: hi})
	reads(t, s, e, api.File{Path: "f", Mode: 1, Id: none}, api.File{Path: "g", Mode: 2, Id: hi})
	// It does not matter whether the blobs are there, nor whether they are blobs.
	for _, o := range []api.Object{{Kind: api.Blob, Body: []byte("hi")}, {Kind: api.Blob}} {
		put(t, s, o)
		reads(t, s, root, knownFiles(hi, none)...)
	}
	reads(t, s, grow(t, s, of(1, "c", object.Id(api.Object{Kind: api.Commit})), of(3, "t", e)), api.File{Path: "c", Mode: 1, Id: object.Id(api.Object{Kind: api.Commit})}, api.File{Path: "t", Mode: 3, Id: e})
}

// knownFiles are those of a tree of which the ids are known from elsewhere.
func knownFiles(hi, none api.Id) []api.File {
	return []api.File{
		{Path: "a", Mode: 1, Id: hi}, {Path: "a.b", Mode: 2, Id: none}, {Path: "a0/b", Mode: 1, Id: hi}, {Path: "d-/x", Mode: 3, Id: hi}, {Path: "d.x", Mode: 1, Id: hi},
		{Path: "d/e/f", Mode: 1, Id: none}, {Path: "d/e/g", Mode: 2, Id: hi}, {Path: "d/g", Mode: 1, Id: hi}, {Path: "d0", Mode: 1, Id: hi}, {Path: "é/日本", Mode: 1, Id: hi},
	}
}

// P13.1: names that differ only in where a / stands in the order of a tree, and
// in that of a list.
func TestReadOrder(t *testing.T) {
	s := objects.New()
	inner := grow(t, s, leaf("x"))
	names := []string{"d", "d!", "d.", "d0", "d\x01", "dd", "d-d", "e"}
	for bits := range 1 << len(names) {
		var items []api.Item
		for i, name := range names {
			if bits>>i&1 == 1 {
				items = append(items, dir(name, inner))
			} else {
				items = append(items, leaf(name))
			}
		}
		if l, err := holdRead(t, s, grow(t, s, items...)); err != api.OK || len(l) != len(names) || !slices.Equal(l, sorted(l)) {
			t.Errorf("Read: %s, error %d", told(l), err)
		}
	}
}

// P13.1: for the id of the tree without items there are no files, whether the
// tree is there or not; another one that is not there is none.
func TestReadEmpty(t *testing.T) {
	with := store(t, api.Object{Kind: api.Tree})
	for _, s := range []*objects.Store{objects.New(), {}, with, with.Fork(), store(t, api.Object{Kind: api.Blob})} {
		before := content(s)
		reads(t, s, flat.Empty())
		refuses(t, s, api.Id{}, api.ErrNone)
		refuses(t, s, gone, api.ErrNone)
		if len(content(s)) != len(before) {
			t.Errorf("Read has put something: %v", content(s))
		}
	}
}

// P13.1: a nil store, ahead of all else.
func TestReadNil(t *testing.T) {
	for _, id := range []api.Id{{}, flat.Empty(), gone, idOf(1)} {
		if l, err := flat.Read(nil, id); err != api.ErrNil || len(l) != 0 {
			t.Errorf("Read of a nil store: %d files, error %d", len(l), err)
		}
	}
}

// fault is an item that cannot be read: what is wrong with it, and the error
// that is told of it in the outermost tree, and behind MaxFiles files there.
type fault struct {
	name      string
	item      func(name string) api.Item
	err, full api.Errno
}

// faulty fills a store with trees that cannot be read.
func faulty(t *testing.T, s *objects.Store) []fault {
	t.Helper()
	tree := func(id api.Id) func(string) api.Item { return func(name string) api.Item { return dir(name, id) } }
	raw := func(kind int, body string) func(string) api.Item {
		return tree(put(t, s, api.Object{Kind: kind, Body: []byte(body)}))
	}
	one := grow(t, s, leaf("x"))
	full := grow(t, s, leaves(api.MaxFiles)...)
	return []fault{
		{"a tree that is not there", tree(gone), api.ErrNone, api.ErrNone},
		{"a tree that is a blob", raw(api.Blob, "hi"), api.ErrKind, api.ErrKind},
		{"a tree that is an empty blob", raw(api.Blob, ""), api.ErrKind, api.ErrKind},
		{"a tree that is a commit", raw(api.Commit, "x"), api.ErrKind, api.ErrKind},
		{"a tree that cannot be parsed", raw(api.Tree, "x"), api.ErrForm, api.ErrForm},
		{"a tree whose name is none", raw(api.Tree, "100644 a/b\x00"+strings.Repeat("x", 20)), api.ErrForm, api.ErrForm},
		{"a tree out of order", raw(api.Tree, "100644 b\x00"+strings.Repeat("x", 20)+"100644 a\x00"+strings.Repeat("x", 20)), api.ErrForm, api.ErrForm},
		{"a tree with a tree that is not there", tree(grow(t, s, dir("d", gone))), api.ErrNone, api.ErrNone},
		{"a tree with a tree that is a blob", tree(grow(t, s, dir("d", put(t, s, api.Object{Kind: api.Blob, Body: []byte("b")})))), api.ErrKind, api.ErrKind},
		{"a tree with a file, and a tree that is not there", tree(grow(t, s, leaf("a"), dir("d", gone))), api.ErrNone, api.ErrLimit},
		{"a file that is too deep", tree(nest(t, s, one, 15)), api.ErrForm, api.ErrForm},
		{"a tree that is too deep, and is not there", tree(nest(t, s, gone, 16)), api.ErrForm, api.ErrForm},
		{"a tree that is deep, and is not there", tree(nest(t, s, gone, 15)), api.ErrNone, api.ErrNone},
		{"a file whose path is too long", tree(grow(t, s, leaf(long(399)))), api.ErrForm, api.ErrForm},
		{"a tree whose path is too long, and is not there", tree(grow(t, s, dir(long(399), gone))), api.ErrForm, api.ErrForm},
		{"a tree whose path is long, and is not there", tree(grow(t, s, dir(long(398), gone))), api.ErrNone, api.ErrNone},
		{"a tree whose path is long", tree(grow(t, s, dir(long(398), one))), api.ErrForm, api.ErrForm},
		{"a tree in which two are too long together", tree(grow(t, s, dir(long(200), grow(t, s, leaf(long(199)))))), api.ErrForm, api.ErrForm},
		{"one file more than may be", tree(grow(t, s, dir("d", full), leaf("e"))), api.ErrLimit, api.ErrLimit},
		{"one file more than may be, in a tree", tree(grow(t, s, dir("d", full), dir("e", one))), api.ErrLimit, api.ErrLimit},
		{"as many files as may be, twice", tree(grow(t, s, dir("d", full), dir("e", full))), api.ErrLimit, api.ErrLimit},
	}
}

// emptyFaults are the items that are the tree without items; there tells
// whether a store has it.
func emptyFaults(t *testing.T, s *objects.Store, there bool) []fault {
	t.Helper()
	want := api.ErrNone
	if there {
		want = api.ErrForm
		put(t, s, api.Object{Kind: api.Tree})
	}
	inner := grow(t, s, dir("d", flat.Empty()))
	return []fault{
		{"the tree without items", func(name string) api.Item { return dir(name, flat.Empty()) }, want, want},
		{"a tree with the tree without items", func(name string) api.Item { return dir(name, inner) }, want, want},
	}
}

// P13.1: each error of the trees in a tree, as the only one, as the first and as
// a later one; the one that is met first is told.
func TestReadErrors(t *testing.T) {
	for _, there := range []bool{true, false} {
		s := objects.New()
		faults := append(faulty(t, s), emptyFaults(t, s, there)...)
		full, good := grow(t, s, leaves(api.MaxFiles)...), grow(t, s, leaf("x"))
		for _, f := range faults {
			t.Run(f.name, func(t *testing.T) {
				refuses(t, s, grow(t, s, f.item("b")), f.err)
				refuses(t, s, grow(t, s, f.item("~")), f.err)
				refuses(t, s, grow(t, s, leaf("a"), f.item("b"), leaf("c")), f.err)
				refuses(t, s, grow(t, s, dir("a", good), f.item("b"), dir("c", good)), f.err)
				refuses(t, s, grow(t, s, dir("a", full), f.item("b")), f.full)
				refuses(t, s, grow(t, s, f.item("b"), dir("c", full)), f.err)
				refuses(t, s, grow(t, s, dir("a", full), leaf("a.b"), f.item("b")), api.ErrLimit)
				refuses(t, s, grow(t, s, dir("a", full), leaf("a0"), f.item("b")), api.ErrLimit)
				for _, g := range faults {
					refuses(t, s, grow(t, s, f.item("a"), g.item("b")), f.err)
					refuses(t, s, grow(t, s, f.item("a"), leaf("a.b"), g.item("b")), f.err)
					refuses(t, s, grow(t, s, dir("a", good), f.item("b"), g.item("c"), f.item("d")), f.err)
				}
			})
		}
	}
}

// P13.1: the order of a tree says what is met first, not that of the names.
func TestReadFirst(t *testing.T) {
	s := store(t, api.Object{Kind: api.Blob})
	blob := object.Id(api.Object{Kind: api.Blob})
	for _, r := range []struct {
		items []api.Item
		want  api.Errno
	}{
		{[]api.Item{dir("d", gone), dir("d.", blob)}, api.ErrKind}, {[]api.Item{dir("d", gone), dir("d0", blob)}, api.ErrNone}, {[]api.Item{dir("d", blob), dir("d-", gone)}, api.ErrNone},
		{[]api.Item{dir("z", grow(t, s, dir("a", gone))), dir("y", grow(t, s, dir("z", blob)))}, api.ErrKind}, {[]api.Item{dir("y", grow(t, s, leaf("a"), dir("z", gone))), dir("z", blob)}, api.ErrNone},
		{[]api.Item{dir("a", grow(t, s, dir("b", grow(t, s, dir("c", gone))))), dir("a0", blob)}, api.ErrNone}, {[]api.Item{dir("a", grow(t, s, dir("b", grow(t, s, dir("c", gone))), dir("b!", blob)))}, api.ErrKind},
		{[]api.Item{dir("é", gone), dir("z", blob)}, api.ErrKind}, {[]api.Item{dir("日", gone), dir("é", blob)}, api.ErrKind},
	} {
		refuses(t, s, grow(t, s, r.items...), r.want)
	}
}

// P13.1: the errors of the outermost tree.
func TestReadTop(t *testing.T) {
	s := objects.New()
	twenty := strings.Repeat("x", 20)
	for _, r := range []struct {
		kind int
		body string
		want api.Errno
	}{
		{api.Blob, "", api.ErrKind}, {api.Blob, "hi", api.ErrKind}, {api.Commit, "", api.ErrKind}, {api.Commit, "x", api.ErrKind}, {api.Blob, "100644 a\x00" + twenty, api.ErrKind},
		{api.Tree, "x", api.ErrForm}, {api.Tree, "\x00", api.ErrForm}, {api.Tree, "100644 a\x00" + twenty + "x", api.ErrForm}, {api.Tree, "100644 a\x00" + twenty[1:], api.ErrForm}, {api.Tree, "100644 .git\x00" + twenty, api.ErrForm},
		{api.Tree, "40000 a\x00" + twenty + "100644 a\x00" + twenty, api.ErrForm}, {api.Tree, "100644 a\x00" + twenty + "40000 a\x00" + twenty, api.ErrForm}, {api.Tree, "40000 a\x00" + twenty + "x", api.ErrForm},
		{api.Tree, "100644 \xff\x00" + twenty, api.ErrForm}, {api.Tree, "40000 a\x00" + twenty, api.ErrNone}, {api.Tree, "100644 a\x00" + twenty, api.OK},
	} {
		id := put(t, s, api.Object{Kind: r.kind, Body: []byte(r.body)})
		if _, err := holdRead(t, s, id); err != r.want {
			t.Errorf("Read of the kind %d, %q: error %d; want %d", r.kind, r.body, err, r.want)
		}
		for bit := range 160 {
			id[bit/8] ^= 1 << (bit % 8)
			refuses(t, s, id, api.ErrNone)
			id[bit/8] ^= 1 << (bit % 8)
		}
	}
}

// P13.1: a path of a file, and of a tree, has at most MaxDepth names and at most
// MaxPath bytes.
func TestReadPaths(t *testing.T) {
	s := objects.New()
	one := grow(t, s, leaf("x"))
	for n := range api.MaxDepth + 4 {
		l, err := holdRead(t, s, nest(t, s, one, n))
		if (err == api.OK) != (n < 16) || err == api.OK && (len(l) != 1 || strings.Count(l[0].Path, "/") != n) {
			t.Errorf("a path of %d names: %s, error %d", n+1, told(l), err)
		}
		if want := []api.Errno{api.ErrNone, api.ErrForm}[n/17]; n > 0 {
			refuses(t, s, nest(t, s, gone, n), want)
		}
	}
	for _, name := range []string{"d", "日", long(100), long(398), long(399), long(400)} {
		for size := max(len(name)+2, 396); size <= min(len(name)+401, 404); size++ {
			rest := long(size - len(name) - 1)
			_, err := holdRead(t, s, grow(t, s, dir(name, grow(t, s, leaf(rest)))))
			if (err == api.OK) != (size <= 400) {
				t.Errorf("a path of %d bytes: error %d", size, err)
			}
			refuses(t, s, grow(t, s, dir(name, grow(t, s, dir(rest, gone)))), []api.Errno{api.ErrNone, api.ErrForm}[size/401])
		}
	}
	// The path that is not valid is not the first one.
	refuses(t, s, grow(t, s, leaf("a"), dir("b", grow(t, s, leaf("a"), leaf(long(399)))), leaf("c")), api.ErrForm)
	refuses(t, s, grow(t, s, dir("b", grow(t, s, leaf(long(399)), dir("z", gone)))), api.ErrForm)
	refuses(t, s, grow(t, s, dir("b", grow(t, s, dir("a", gone), leaf("b"+long(399))))), api.ErrNone)
}

// P13.1: MaxFiles files are found and no more, in one tree or in many; trees
// do not count.
func TestReadLimit(t *testing.T) {
	s := objects.New()
	for _, n := range []int{1, 2, 3, 100, 249, 250, 251, 498, 499} {
		for more := max(1, api.MaxFiles-n-1); more <= min(api.MaxFiles-1, api.MaxFiles-n+2); more++ {
			want := api.OK
			if n+more > 500 {
				want = api.ErrLimit
			}
			one, two := grow(t, s, leaves(n)...), grow(t, s, leaves(more)...)
			for _, id := range []api.Id{grow(t, s, dir("a", one), dir("b", two)), grow(t, s, dir("a", one), dir("b", nest(t, s, two, 14))), grow(t, s, append(leaves(n), dir("a", two))...), grow(t, s, append(leaves(n), dir("!", two))...)} {
				if l, err := holdRead(t, s, id); err != want || err == api.OK && len(l) != n+more {
					t.Errorf("%d and %d files: %d, error %d; want the error %d", n, more, len(l), err, want)
				}
			}
		}
	}
	full := grow(t, s, leaves(api.MaxFiles)...)
	reads(t, s, full, numbered(api.MaxFiles, 0, "")...)
	if l, err := holdRead(t, s, nest(t, s, full, 15)); err != api.OK || len(l) != api.MaxFiles {
		t.Errorf("as many as may be, as deep as may be: %d, error %d", len(l), err)
	}
	// As many trees as may be, in as many.
	var items []api.Item
	for i := range api.MaxFiles {
		items = append(items, dir(fmt.Sprintf("%04d", i), nest(t, s, grow(t, s, leaf(fmt.Sprint(i%7))), 14)))
	}
	if l, err := holdRead(t, s, grow(t, s, items...)); err != api.OK || len(l) != api.MaxFiles {
		t.Errorf("as many trees as may be: %d, error %d", len(l), err)
	}
}

// P13.1: trees that are all alike, in each other, are gone through only as far
// as there is need to.
func TestReadWide(t *testing.T) {
	for _, start := range []struct {
		item api.Item
		want api.Errno
	}{{leaf("x"), api.ErrLimit}, {leaf(long(400)), api.ErrForm}, {dir("x", gone), api.ErrNone}, {dir("x", flat.Empty()), api.ErrNone}} {
		for _, depth := range []int{9, 12, 15, 30} {
			s := objects.New()
			id := grow(t, s, start.item)
			for range depth {
				id = grow(t, s, dir("a", id), dir("b", id), dir("c", id))
			}
			want := start.want
			if depth > 15 {
				want = api.ErrForm
			}
			refuses(t, s, id, want)
		}
	}
}

// P13.1: Read of all trees of a store that is filled by a rule, good and bad
// ones, whatever they have in them.
func TestReadAll(t *testing.T) {
	names := []string{"a", "a!", "a.", "a0", "b", "é"}
	read := 0
	for turn := range 40 {
		s := store(t, api.Object{Kind: api.Blob}, api.Object{Kind: api.Commit, Body: []byte("x")}, api.Object{Kind: api.Tree, Body: []byte("x")})
		ids := append(s.Ids(), gone, flat.Empty())
		if turn%4 != 0 { // most of the stores have none but good trees
			ids = []api.Id{grow(t, s, leaf("x"))}
		}
		n := turn*turn + 1
		next := func(k int) int {
			n = (n*1103515245 + 12345) & 0x7fffffff
			return (n >> 8) % k
		}
		for range 60 {
			var items []api.Item
			for _, name := range names {
				switch next(4) {
				case 0:
					items = append(items, of(api.ModeFile+next(3), name, idOf(next(1000))))
				case 1:
					items = append(items, dir(name, ids[next(len(ids))]))
				}
			}
			if len(items) > 0 {
				ids = append(ids, grow(t, s, items...))
			}
		}
		before := len(s.Ids())
		for _, id := range ids {
			if _, err := holdRead(t, s, id); err == api.OK {
				read++
			}
		}
		if len(s.Ids()) != before {
			t.Errorf("Read has put something: %d objects; want %d", len(s.Ids()), before)
		}
	}
	if read < 200 {
		t.Errorf("%d trees were read: the test is none", read)
	}
}

// R3: writing to what Read told changes nothing.
func TestReadApart(t *testing.T) {
	s := objects.New()
	id := grow(t, s, leaf("a"), dir("d", grow(t, s, leaf("b"), leaf("c"))))
	want := []api.File{file("a"), file("d/b"), file("d/c")}
	first, _ := flat.Read(s, id)
	second, _ := flat.Read(s, id)
	for i := range first[:cap(first)] {
		first[:cap(first)][i] = api.File{Path: "turned"}
	}
	if !slices.Equal(second, want) {
		t.Errorf("what was told earlier is %s", told(second))
	}
	reads(t, s, id, want...)
	reads(t, s.Fork(), id, want...)
}
