package flat_test

import (
	"fmt"
	"maps"
	"path"
	"slices"
	"strings"
	"sync"
	"testing"

	"trestle/api"
	"trestle/flat"
	"trestle/object"
	"trestle/objects"
)

// modeWords has what a tree says for a mode.
var modeWords = map[int]string{api.ModeFile: "100644", api.ModeExec: "100755", api.ModeLink: "120000", api.ModeTree: "40000"}

// trees is what the chapters say of the trees of a list: their bodies by their
// ids, and the id of the outermost one.
func trees(l []api.File) (map[api.Id]string, api.Id) {
	within := map[string]map[string]string{".": {}} // by directories and places: the items
	for _, f := range l {
		d, name := path.Dir(f.Path), path.Base(f.Path)
		for x := d; within[x] == nil; x = path.Dir(x) {
			within[x] = map[string]string{}
		}
		within[d][name] = modeWords[f.Mode] + " " + name + "\x00" + string(f.Id[:])
	}
	dirs := slices.SortedFunc(maps.Keys(within), func(a, b string) int { return strings.Count(b, "/") - strings.Count(a, "/") })
	dirs = append(slices.DeleteFunc(dirs, func(d string) bool { return d == "." }), ".")
	bodies := map[api.Id]string{}
	var id api.Id
	for _, d := range dirs {
		body := ""
		for _, place := range slices.Sorted(maps.Keys(within[d])) {
			body += within[d][place]
		}
		id = sumOf([]byte(body))
		bodies[id] = "tree " + body
		if d != "." {
			within[path.Dir(d)][path.Base(d)+"/"] = "40000 " + path.Base(d) + "\x00" + string(id[:])
		}
	}
	return bodies, id
}

// written is what the chapter says of Write, where a store has that content:
// the content behind it, and the answer.
func written(before map[api.Id]string, l []api.File) (map[api.Id]string, api.Id, api.Errno) {
	if !valid(l) {
		return before, api.Id{}, api.ErrOrder
	}
	bodies, id := trees(l)
	after := maps.Clone(before)
	for x, body := range bodies {
		if len(body) > 65536+len("tree ") {
			return before, api.Id{}, api.ErrLimit
		}
		after[x] = body
	}
	if len(after) > 5000 {
		return before, api.Id{}, api.ErrLimit
	}
	return after, id, api.OK
}

// holdWrite holds what Write answers and puts against the chapter, and tells
// it; what was put is held against what Read makes of it.
func holdWrite(t *testing.T, s *objects.Store, l []api.File) (api.Id, api.Errno) {
	t.Helper()
	after, want, wantErr := written(content(s), l)
	id, err := flat.Write(s, l)
	if id != want || err != wantErr {
		t.Errorf("Write of %s: %x, error %d; want %x, error %d", told(l), id, err, want, wantErr)
	}
	if got := content(s); !maps.Equal(got, after) {
		t.Errorf("Write of %s: %d objects are there; want %d", told(l), len(got), len(after))
	}
	if err == api.OK {
		if back, err := flat.Read(s, id); err != api.OK || !slices.Equal(back, l) {
			t.Errorf("Read of what was written: %s, error %d; want %s", told(back), err, told(l))
		}
	}
	return id, err
}

// fails expects an error, and nothing put.
func fails(t *testing.T, s *objects.Store, l []api.File, want api.Errno) {
	t.Helper()
	if id, err := holdWrite(t, s, l); err != want || id != (api.Id{}) {
		t.Errorf("Write of %s: %x, error %d; want the error %d alone", told(l), id, err, want)
	}
}

// works expects the id of the outermost tree, and so many objects in the store.
func works(t *testing.T, s *objects.Store, l []api.File, count int) {
	t.Helper()
	if _, err := holdWrite(t, s, l); err != api.OK || len(s.Ids()) != count {
		t.Errorf("Write of %s: error %d, %d objects; want %d", told(l), err, len(s.Ids()), count)
	}
}

// P13.2: lists of which the ids of the trees are known from elsewhere.
func TestWriteKnown(t *testing.T) {
	hi, none := known(t, "32f95c0d1244a78b2be1bab8de17906fabb2c4a8"), known(t, "e69de29bb2d1d6434b8b29ae775ad8c2e48c5391")
	for _, r := range []struct {
		l    []api.File
		want []string // the outermost one first
	}{
		{nil, []string{emptyText}}, {[]api.File{}, []string{emptyText}},
		{[]api.File{{Path: "a", Mode: 1, Id: hi}}, []string{"f3330bb188e45b11b32cba7918a7d8cc7c15d9ed"}},
		{[]api.File{{Path: "d/a", Mode: 1, Id: hi}}, []string{"6066fc6c1eac00a7c91d36c2618556fa5fc742e7", "f3330bb188e45b11b32cba7918a7d8cc7c15d9ed"}},
		{knownFiles(hi, none), []string{"b4b9c81d567c778a9c50344e7d6ff83f509aa4f1", "a2e168700c7934c9790b27d93b39db48077f5ee8", "274da5012e34eccc49e31e2c59582d54bee61fa4", "2b909468a31c8f9f7a3e807769efb10f8f9e8120", "6dc763142f4ac653a443094f9b18ad580aeee975", "a5b7303305d06c73bce338bfbc142a94ee40b07f"}},
	} {
		for _, s := range []*objects.Store{objects.New(), {}, store(t, api.Object{Kind: api.Blob, Body: []byte("x")})} {
			more := len(s.Ids())
			for range 3 { // what is there is not put again
				if id, err := holdWrite(t, s, r.l); id != known(t, r.want[0]) || err != api.OK {
					t.Errorf("Write of %s: %x, error %d; want %s", told(r.l), id, err, r.want[0])
				}
				for _, text := range r.want {
					if _, err := s.Tree(known(t, text)); err != api.OK {
						t.Errorf("Write of %s: no tree %s, error %d", told(r.l), text, err)
					}
				}
				if n := len(s.Ids()); n != len(r.want)+more {
					t.Errorf("Write of %s: %d objects; want %d", told(r.l), n, len(r.want)+more)
				}
			}
		}
	}
}

// P13.2: all lists of up to four files of paths that begin alike.
func TestWriteLists(t *testing.T) {
	for _, l := range lists(4, near) {
		want := api.ErrOrder
		if valid(l) {
			want = api.OK
		}
		if _, err := holdWrite(t, objects.New(), l); err != want {
			t.Errorf("Write of %s: error %d; want %d", told(l), err, want)
		}
	}
}

// P13.2: a list without files, one and as many as may be; of directories too.
func TestWriteCounts(t *testing.T) {
	works(t, objects.New(), nil, 1)
	works(t, objects.New(), list("a"), 1)
	works(t, objects.New(), list(deep(16, "a")), 16)
	works(t, objects.New(), list(long(400)), 1)
	works(t, objects.New(), list(deep(16, strings.Repeat("é", 12))), 16)
	works(t, objects.New(), list("a/b/c/d", "a/b/c0/d", "a/c/c/d"), 7)
	works(t, objects.New(), []api.File{file("a/x"), file("b/x"), file("c/x")}, 2)
	works(t, objects.New(), []api.File{file("a/a/x"), file("a/b/x"), file("b/a/x"), file("b/b/x"), file("x")}, 3)
	for _, n := range []int{2, api.MaxFiles - 1, api.MaxFiles} {
		works(t, objects.New(), numbered(n, 0, ""), 1)
		works(t, objects.New(), numbered(n, 0, "d/e/"), 3)
		apart := numbered(n, 0, "")
		for i := range apart {
			apart[i].Path += "/x"
		}
		works(t, objects.New(), apart, n+1)
		for i := range apart {
			apart[i].Path += "/y/z/é"
		}
		works(t, objects.New(), apart, n*4+1)
	}
	fails(t, objects.New(), numbered(api.MaxFiles+1, 0, ""), api.ErrOrder)
	fails(t, objects.New(), numbered(api.MaxFiles+1, 0, "d/"), api.ErrOrder)
}

// P13.2: a list that is not valid is refused, be it so in its first file, in one
// within or in its last one.
func TestWriteOrder(t *testing.T) {
	var wrong []api.File
	for _, p := range badPaths {
		wrong = append(wrong, file(p))
	}
	for _, mode := range badModes {
		wrong = append(wrong, api.File{Path: "m/n", Mode: mode, Id: idOf(1)})
	}
	wrong = append(wrong, api.File{Path: "m/n", Mode: api.ModeFile}, api.File{})
	s := store(t, api.Object{Kind: api.Blob})
	for _, f := range wrong {
		fails(t, s, []api.File{f}, api.ErrOrder)
		fails(t, s, []api.File{f, file("\U0010ffff/a")}, api.ErrOrder)
		fails(t, s, []api.File{file("!/a"), f}, api.ErrOrder)
		fails(t, s, []api.File{file("!/a"), f, file("\U0010ffff/a")}, api.ErrOrder)
	}
	for _, paths := range [][]string{{"b", "a"}, {"a", "a"}, {"d/a", "d/a"}, {"d/b", "d/a"}, {"a", "a/b"}, {"a", "a.", "a/b"}, {"a/b", "a/b/c/d"}, {"a/b", "a.b"}, {"a0", "a/b"}, {"a/b", "c", "a/d"}} {
		fails(t, s, list(paths...), api.ErrOrder)
	}
}

// crowd has as many blobs as told; forks of it are cheaper than it is.
func crowd(t *testing.T, n int) *objects.Store {
	t.Helper()
	s := objects.New()
	for i := range n {
		put(t, s, api.Object{Kind: api.Blob, Body: fmt.Append(nil, i)})
	}
	return s
}

// P13.2: where there is no room for all trees, none is put; those that are
// there already, or are alike, need none.
func TestWriteRoom(t *testing.T) {
	base := crowd(t, api.MaxObjects-12)
	for _, r := range []struct {
		l    []api.File
		need int
	}{
		{nil, 1}, {list("a"), 1}, {list("a/b"), 2}, {list("a/b", "c/d"), 3}, {[]api.File{file("a/x"), file("b/x")}, 2}, {list("a/b/c/d/e/f", "z"), 6}, {[]api.File{file("a/a/x"), file("a/b/x"), file("b/a/x"), file("x")}, 4}, {list(deep(12, "a")), 12},
	} {
		for room := min(12, r.need+1); room >= 0; room-- {
			s := base.Fork()
			for i := range 12 - room {
				put(t, s, api.Object{Kind: api.Commit, Body: fmt.Append(nil, i)})
			}
			if room < r.need {
				fails(t, s, r.l, api.ErrLimit)
				continue
			}
			works(t, s, r.l, api.MaxObjects-room+r.need)
			works(t, s, r.l, api.MaxObjects-room+r.need)
		}
		// The trees are there, and then the store is full.
		s := base.Fork()
		works(t, s, r.l, api.MaxObjects-12+r.need)
		for i := range 12 - r.need {
			put(t, s, api.Object{Kind: api.Commit, Body: fmt.Append(nil, i)})
		}
		works(t, s, r.l, api.MaxObjects)
		fails(t, s, list("other"), api.ErrLimit)
		fails(t, s, append(list("!/other"), r.l...), api.ErrLimit)
		fails(t, s, list("b", "a"), api.ErrOrder)
	}
	// The inner trees are there, in a store that has room for one more object.
	s := base.Fork()
	works(t, s, list("c/d", "e"), api.MaxObjects-10)
	for i := range 9 {
		put(t, s, api.Object{Kind: api.Commit, Body: fmt.Append(nil, i)})
	}
	inner := list("c/d")
	inner[0].Path = "x/d"
	fails(t, s, append(inner, file("y/z")), api.ErrLimit)
	works(t, s, inner, api.MaxObjects)
	fails(t, s, []api.File{{Path: "y/d", Mode: inner[0].Mode, Id: inner[0].Id}}, api.ErrLimit)
	fails(t, objects.New(), tooMany(), api.ErrLimit)
}

// tooMany is a list with more trees than a store can have.
func tooMany() []api.File {
	l := numbered(api.MaxFiles, 0, "")
	for i := range l {
		l[i].Path += "/" + deep(12, "a")
	}
	return l
}

// sized makes files below a directory, whose tree has n bytes.
func sized(dir string, n int) []api.File {
	l := numbered(api.MaxFiles, len(dir)+100, dir)
	for i := range l {
		l[i].Mode = api.ModeFile
	}
	left := n - len(l)*(len("100644 ")+100+len("\x00")+20)
	for i := 0; left > 0; i++ {
		more := min(left, api.MaxPath-len(l[i].Path))
		l[i].Path += strings.Repeat("y", more)
		left -= more
	}
	return l
}

// P13.2: no tree has more than MaxBody bytes; if one would have, none is put.
func TestWriteBody(t *testing.T) {
	for _, dir := range []string{"", "d/", "d/e/f/"} {
		for n := api.MaxBody - 2; n <= api.MaxBody+2; n++ {
			s := store(t, api.Object{Kind: api.Blob})
			l := sized(dir, n)
			if n > api.MaxBody {
				fails(t, s, l, api.ErrLimit)
				continue
			}
			works(t, s, l, 2+strings.Count(dir, "/"))
			if o, ok := s.Get(sumOf(treeBody(l, len(dir)))); !ok || len(o.Body) != n {
				t.Errorf("a tree of %d bytes: %d", n, len(o.Body))
			}
		}
	}
	// The outermost one is too long; those in it are not.
	for _, name := range []int{150, 300, 390} {
		l := numbered(api.MaxFiles, name, "")
		for i := range l {
			l[i].Path += "/x"
		}
		fails(t, objects.New(), l, api.ErrLimit)
		fails(t, objects.New(), append([]api.File{file("!/a")}, l[1:]...), api.ErrLimit)
	}
	// The last one of some is too long; the others are not.
	l := append([]api.File{file("a/a"), file("b/a")}, numbered(api.MaxFiles-2, 390, "c/")...)
	fails(t, objects.New(), l, api.ErrLimit)
	works(t, objects.New(), l[:3], 3)
}

// treeBody is the body of a tree of files whose paths begin with n bytes of a
// directory.
func treeBody(l []api.File, n int) []byte {
	var b []byte
	for _, f := range l {
		b = append(append(b, modeWords[f.Mode]+" "+f.Path[n:]+"\x00"...), f.Id[:]...)
	}
	return b
}

// P13.2, R5: a nil store is told ahead of all else, and a list that is not valid
// ahead of what tree.Print and Put say.
func TestWriteFirst(t *testing.T) {
	wide := numbered(api.MaxFiles, 390, "c/")
	swapped := slices.Clone(wide)
	swapped[0], swapped[1] = swapped[1], swapped[0]
	wrong := [][]api.File{list("b", "a"), list(""), swapped, numbered(api.MaxFiles+1, 390, ""), append(slices.Clone(wide[1:]), api.File{Path: "d"}), numbered(api.MaxFiles+1, 0, "d/")}
	for _, l := range append(wrong, nil, []api.File{}, list("a"), list("a/b"), wide, tooMany()) {
		if id, err := flat.Write(nil, l); err != api.ErrNil || id != (api.Id{}) {
			t.Errorf("Write of %s to a nil store: %x, error %d", told(l), id, err)
		}
	}
	full := crowd(t, api.MaxObjects)
	for _, l := range wrong {
		fails(t, objects.New(), l, api.ErrOrder)
		fails(t, full, l, api.ErrOrder)
	}
	for _, l := range [][]api.File{nil, list("a"), list("a/b"), wide, tooMany()} {
		fails(t, full, l, api.ErrLimit)
	}
}

// P13.2: it does not matter what else the store has, nor whether it has the
// blobs.
func TestWriteBlobs(t *testing.T) {
	blob, tree := api.Object{Kind: api.Blob, Body: []byte("x")}, api.Object{Kind: api.Tree, Body: []byte("x")}
	var l []api.File
	for i, o := range []api.Object{blob, tree, {Kind: api.Commit}, {Kind: api.Tree}} {
		l = append(l, api.File{Path: fmt.Sprint("d/", i), Mode: 1 + i%3, Id: object.Id(o)})
	}
	works(t, objects.New(), l, 2)
	works(t, store(t, blob), l, 3)
	works(t, store(t, blob, tree, api.Object{Kind: api.Commit}), l, 5)
	works(t, store(t, api.Object{Kind: api.Tree}), l, 3)
}

// P13.2: what is written to one store is in no other.
func TestWriteApart(t *testing.T) {
	a := store(t, api.Object{Kind: api.Blob})
	b := a.Fork()
	works(t, a, list("a/b", "c"), 3)
	works(t, b, list("d"), 2)
	works(t, a.Fork(), list("d"), 4)
	works(t, objects.New(), list("a/b", "c"), 2)
	if len(a.Ids()) != 3 || len(b.Ids()) != 2 {
		t.Errorf("%d and %d objects; want 3 and 2", len(a.Ids()), len(b.Ids()))
	}
}

// R3: what Write is given stays as it is, and so does what lies behind it; what
// was written does not hang on it.
func TestWriteHandedIn(t *testing.T) {
	for _, paths := range [][]string{{"a", "b/c", "b/d", "c"}, {"b", "a"}, {"a"}, {"a", "a/b"}} {
		room := append(list(paths...), list("y", "x", "z")...)
		before := slices.Clone(room)
		s := objects.New()
		id, err := holdWrite(t, s, room[:len(paths)])
		if !slices.Equal(room, before) {
			t.Errorf("what was handed in is %v; want %v", room, before)
		}
		was := content(s)
		for i := range room {
			room[i] = api.File{Path: "turned"}
		}
		if !maps.Equal(content(s), was) {
			t.Error("what was written hangs on what was handed in")
		}
		if l, _ := flat.Read(s, id); err == api.OK && !slices.Equal(l, before[:len(paths)]) {
			t.Errorf("what was written is %s; want %s", told(l), told(before[:len(paths)]))
		}
	}
}

// R2: calls at once, each with a store of its own, answer what they would alone.
func TestAtOnce(t *testing.T) {
	l := numbered(200, 0, "d/é/")
	_, want := trees(l)
	var group sync.WaitGroup
	for range 8 {
		group.Go(func() {
			s := objects.New()
			id, err := flat.Write(s, l)
			back, readErr := flat.Read(s, id)
			if id != want || err != api.OK || readErr != api.OK || !slices.Equal(back, l) || !flat.Right(l) || !slices.Equal(flat.Sort(l), l) {
				t.Errorf("at once: %x, errors %d and %d, %s", id, err, readErr, told(back))
			}
		})
	}
	group.Wait()
}
