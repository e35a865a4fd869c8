package objects_test

import (
	"bytes"
	"cmp"
	"crypto/sha1"
	"encoding/hex"
	"fmt"
	"maps"
	"math"
	"slices"
	"strings"
	"sync"
	"testing"

	"trestle/api"
	"trestle/commit"
	"trestle/object"
	"trestle/objects"
	"trestle/tree"
)

const (
	emptyText = "4b825dc642cb6eb9a060e54bf8d69288fbee4904" // the tree without items
	people    = "author A <a@b> 5 -0130\ncommitter B C <b> 6 +0200\n"
)

// badKinds are kinds below, beside and above those there are, and such as wrap
// round to them in fewer bits.
var badKinds = []int{math.MinInt, math.MinInt + 1, -1 << 32, -256, -3, -2, -1, 0, 4, 5, 6, 255, 256, 257, 258, 259, 65537, 1<<32 + 1, 1<<32 + 2, 1<<32 + 3, math.MaxInt - 1, math.MaxInt}

// kinds are those there are.
var kinds = []int{api.Blob, api.Tree, api.Commit}

// of makes an object.
func of(kind int, body string) api.Object { return api.Object{Kind: kind, Body: []byte(body)} }

// blobs makes one of each text.
func blobs(texts ...string) []api.Object {
	var l []api.Object
	for _, s := range texts {
		l = append(l, of(api.Blob, s))
	}
	return l
}

// numbered makes another blob of each number.
func numbered(n int) api.Object { return of(api.Blob, fmt.Sprint(n)) }

// idOf is what the chapters say of the id of an object, by other means than
// the project's.
func idOf(o api.Object) api.Id {
	word := []string{"", "blob", "tree", "commit"}[o.Kind]
	return sha1.Sum(fmt.Appendf(nil, "%s %d\x00%s", word, len(o.Body), o.Body))
}

// idFrom reads a known id.
func idFrom(t *testing.T, s string) api.Id {
	t.Helper()
	b, err := hex.DecodeString(s)
	if err != nil || len(b) != 20 {
		t.Fatalf("not an id: %q", s)
	}
	return api.Id(b)
}

// entry is one item of a tree, encoded.
func entry(mode, name string, o api.Object) string {
	id := idOf(o)
	return mode + " " + name + "\x00" + string(id[:])
}

// goodTrees are bodies of trees.
func goodTrees() []string {
	hi := of(api.Blob, "hi")
	inner := of(api.Tree, entry("100644", "f", hi))
	many := ""
	for n := range api.MaxFiles {
		many += entry("100644", fmt.Sprintf("%04d", n), hi)
	}
	return []string{
		"", entry("100644", "f", hi), entry("100755", "f", hi), entry("120000", "f", hi), entry("40000", "f", inner), entry("40000", "f", hi),
		entry("100644", "a", hi) + entry("40000", "d", inner), entry("100644", "é", hi), many,
	}
}

// badTrees are bodies that tree.Parse refuses.
func badTrees() []string {
	hi := of(api.Blob, "hi")
	long := ""
	for n := range api.MaxFiles + 1 {
		long += entry("100644", fmt.Sprintf("%04d", n), hi)
	}
	one := entry("100644", "f", hi)
	return []string{
		"x", "\x00", one[:len(one)-1], one + "x", one + one, entry("100644", "b", hi) + entry("100644", "a", hi), entry("040000", "f", hi), entry("100644", "a/b", hi), entry("100644", ".git", hi),
		"100644 f\x00" + strings.Repeat("\x00", 20), long, strings.Repeat("x", api.MaxBody),
	}
}

// goodCommits are bodies of commits.
func goodCommits() []string {
	return []string{
		"tree " + emptyText + "\n" + people + "\n", "tree " + emptyText + "\n" + people + "\nx\n",
		"tree " + emptyText + "\nparent " + strings.Repeat("a", 40) + "\n" + people + "\nx",
		"tree " + emptyText + "\nparent " + strings.Repeat("a", 40) + "\nparent " + strings.Repeat("b", 40) + "\n" + people + "\n\n\xff",
		"tree " + emptyText + "\n" + people + "\n" + strings.Repeat("x", api.MaxBody/2),
	}
}

// badCommits are bodies that commit.Parse refuses.
func badCommits() []string {
	return []string{
		"", "x", "\x00", "tree " + emptyText, "tree " + emptyText + "\n" + people, "tree " + emptyText + "\n" + people + "x", "tree " + emptyText + "\n" + people + "\n\x00",
		"tree " + strings.Repeat("0", 40) + "\n" + people + "\nx", "tree " + strings.ToUpper(emptyText) + "\n" + people + "\nx",
		"tree " + emptyText + "\nparent " + strings.Repeat("0", 40) + "\n" + people + "\nx", "tree " + emptyText + "\nencoding x\n" + people + "\nx",
		"tree " + emptyText + "\n" + people + "\n" + strings.Repeat("x", api.MaxBody/2+1), strings.Repeat("x", api.MaxBody),
	}
}

// model is what a store has: the bodies and kinds of its objects, by their ids
// as texts.
type model map[string]api.Object

// put is what the chapter says of Put, where no two objects have one id.
func (m model) put(o api.Object) (api.Id, api.Errno) {
	if !slices.Contains(kinds, o.Kind) {
		return api.Id{}, api.ErrKind
	}
	if len(o.Body) > api.MaxBody {
		return api.Id{}, api.ErrLimit
	}
	id := idOf(o)
	if _, ok := m[hex.EncodeToString(id[:])]; !ok && len(m) == api.MaxObjects {
		return api.Id{}, api.ErrLimit
	}
	m[hex.EncodeToString(id[:])] = api.Object{Kind: o.Kind, Body: bytes.Clone(o.Body)}
	return id, api.OK
}

// put adds an object to a store and to its model, and holds what both answer
// against each other.
func put(t *testing.T, s *objects.Store, m model, o api.Object) {
	t.Helper()
	want, wantErr := m.put(o)
	if id, err := s.Put(o); id != want || err != wantErr {
		t.Errorf("Put of the kind %d with %d bytes: %x, error %d; want %x, error %d", o.Kind, len(o.Body), id, err, want, wantErr)
	}
}

// filled makes a store with some objects, and its model.
func filled(t *testing.T, l ...api.Object) (*objects.Store, model) {
	t.Helper()
	s, m := objects.New(), model{}
	for _, o := range l {
		put(t, s, m, o)
	}
	hold(t, s, m)
	return s, m
}

// hold holds all that a store tells against its model, for ids that it has
// and for some that it has not.
func hold(t *testing.T, s *objects.Store, m model) {
	t.Helper()
	ids := s.Ids()
	if len(ids) != len(m) {
		t.Errorf("Ids: %d of them; want %d", len(ids), len(m))
	}
	for i, text := range slices.Sorted(maps.Keys(m)) {
		if i < len(ids) && hex.EncodeToString(ids[i][:]) != text {
			t.Errorf("Ids: the id %d is %x; want %s", i, ids[i], text)
		}
		id := idFrom(t, text)
		holdId(t, s, m, id)
		id[19]++
		holdId(t, s, m, id)
	}
	for _, id := range []api.Id{{}, {1}, {19: 1}, {0: 255, 19: 255}} {
		holdId(t, s, m, id)
	}
}

// holdId holds what a store tells of one id against its model.
func holdId(t *testing.T, s *objects.Store, m model, id api.Id) {
	t.Helper()
	want, ok := m[hex.EncodeToString(id[:])]
	if o, is := s.Get(id); is != ok || o.Kind != want.Kind || !bytes.Equal(o.Body, want.Body) {
		t.Errorf("Get of %x: the kind %d, %d bytes, %t; want the kind %d, %d bytes, %t", id, o.Kind, len(o.Body), is, want.Kind, len(want.Body), ok)
	}
	refusal := func(kind int) api.Errno {
		if !ok {
			return api.ErrNone
		}
		if want.Kind != kind {
			return api.ErrKind
		}
		return api.OK
	}
	items, wantErr := []api.Item(nil), refusal(api.Tree)
	if wantErr == api.OK {
		items, wantErr = tree.Parse(want.Body)
	}
	if l, err := s.Tree(id); err != wantErr || !slices.Equal(l, items) {
		t.Errorf("Tree of %x: %d items, error %d; want %d, error %d", id, len(l), err, len(items), wantErr)
	}
	record, wantErr := api.Record{}, refusal(api.Commit)
	if wantErr == api.OK {
		record, wantErr = commit.Parse(want.Body)
	}
	if c, err := s.Commit(id); err != wantErr || !sameRecord(c, record) {
		t.Errorf("Commit of %x: the text %.80q, error %d; want %.80q, error %d", id, c.Text, err, record.Text, wantErr)
	}
	body, wantErr := []byte(nil), refusal(api.Blob)
	if wantErr == api.OK {
		body = want.Body
	}
	if b, err := s.Blob(id); err != wantErr || !bytes.Equal(b, body) {
		t.Errorf("Blob of %x: %d bytes, error %d; want %d, error %d", id, len(b), err, len(body), wantErr)
	}
}

// sameRecord tells whether two records are equal.
func sameRecord(a, b api.Record) bool {
	return a.Tree == b.Tree && slices.Equal(a.Parents, b.Parents) && a.Author == b.Author && a.Committer == b.Committer && a.Text == b.Text
}

// P10.1: a new store is empty, and so is one that was not made by New.
func TestEmpty(t *testing.T) {
	hold(t, objects.New(), model{})
	hold(t, &objects.Store{}, model{})
	hold(t, objects.New().Fork(), model{})
	hold(t, (&objects.Store{}).Fork(), model{})
	for _, s := range []*objects.Store{objects.New(), {}, objects.New().Fork(), (&objects.Store{}).Fork()} {
		m := model{}
		put(t, s, m, of(api.Blob, "hi"))
		hold(t, s, m)
	}
}

// P10.1: what is put into one store is in no other.
func TestStoresApart(t *testing.T) {
	a, b := objects.New(), objects.New()
	a.Put(of(api.Blob, "a"))
	b.Put(of(api.Blob, "b"))
	_, ma := filled(t, of(api.Blob, "a"))
	_, mb := filled(t, of(api.Blob, "b"))
	hold(t, a, ma)
	hold(t, b, mb)
	hold(t, objects.New(), model{})
}

// P10.1: objects of ids that are known from elsewhere.
func TestKnown(t *testing.T) {
	hi, none := of(api.Blob, "hi"), of(api.Blob, "")
	sub := of(api.Tree, entry("100644", "f", hi))
	top := of(api.Tree, entry("100644", "a", hi)+entry("100755", "b", none)+entry("40000", "d", sub)+entry("120000", "l", hi))
	first := of(api.Commit, "tree be7c8677724264632d2cb9cecde8ee370396eb29\n"+people+"\nfirst\n")
	second := of(api.Commit, "tree 6044b63e4b229a3630d060f1dd8c078ebba34e78\nparent e2b8f46671fc0a4f25408d2455514822307a8ce7\nauthor A <a@b> 7 -0130\ncommitter B C <b> 8 +0200\n\nsecond\n")
	s, m := objects.New(), model{}
	for _, r := range []struct {
		o  api.Object
		id string
	}{
		{hi, "32f95c0d1244a78b2be1bab8de17906fabb2c4a8"}, {none, "e69de29bb2d1d6434b8b29ae775ad8c2e48c5391"}, {of(api.Blob, "hello, world\n"), "4b5fa63702dd96796042e92787f464e28f09f17d"},
		{of(api.Tree, ""), emptyText}, {sub, "6044b63e4b229a3630d060f1dd8c078ebba34e78"}, {top, "be7c8677724264632d2cb9cecde8ee370396eb29"},
		{first, "e2b8f46671fc0a4f25408d2455514822307a8ce7"}, {second, "44d5f1ed62052713b4bc562b57460441a65bb4d9"},
	} {
		if id, err := s.Put(r.o); id != idFrom(t, r.id) || err != api.OK || id != object.Id(r.o) {
			t.Errorf("Put of %q: %x, error %d; want %s", r.o.Body, id, err, r.id)
		}
		m.put(r.o)
		hold(t, s, m)
	}
	alice, bob := api.Ident{Name: "A", Email: "a@b", When: 7, Zone: -90}, api.Ident{Name: "B C", Email: "b", When: 8, Zone: 120}
	want := api.Record{Tree: idOf(sub), Parents: []api.Id{idOf(first)}, Author: alice, Committer: bob, Text: "second\n"}
	if c, err := s.Commit(idOf(second)); err != api.OK || !sameRecord(c, want) {
		t.Errorf("Commit: %v, error %d", c, err)
	}
	items := []api.Item{{Mode: api.ModeFile, Name: "a", Id: idOf(hi)}, {Mode: api.ModeExec, Name: "b", Id: idOf(none)}, {Mode: api.ModeTree, Name: "d", Id: idOf(sub)}, {Mode: api.ModeLink, Name: "l", Id: idOf(hi)}}
	if l, err := s.Tree(idOf(top)); err != api.OK || !slices.Equal(l, items) {
		t.Errorf("Tree: %v, error %d", l, err)
	}
	if b, err := s.Blob(idOf(hi)); err != api.OK || string(b) != "hi" {
		t.Errorf("Blob: %q, error %d", b, err)
	}
}

// P10.1: an object that is put again, at once or behind others, is there once.
func TestPutTwice(t *testing.T) {
	for _, kind := range kinds {
		for _, body := range []string{"", "x", "\x00", strings.Repeat("x", api.MaxBody)} {
			o := of(kind, body)
			s, m := filled(t, o, o)
			if len(s.Ids()) != 1 {
				t.Errorf("the same object twice: %d ids", len(s.Ids()))
			}
			for n := range 5 {
				put(t, s, m, numbered(n))
				put(t, s, m, o)
			}
			hold(t, s, m)
			if len(s.Ids()) != 6 {
				t.Errorf("the same object among five others: %d ids", len(s.Ids()))
			}
		}
	}
}

// P10.1, R3: no bytes are no bytes, and room behind the bytes does not count.
func TestSameBytes(t *testing.T) {
	room := append(make([]byte, 0, 100), "hi"...)
	for _, kind := range kinds {
		s, m := filled(t, api.Object{Kind: kind}, api.Object{Kind: kind, Body: []byte{}}, api.Object{Kind: kind, Body: room[:0]}, api.Object{Kind: kind, Body: room}, of(kind, "hi"), api.Object{Kind: kind, Body: room[:2:2]})
		hold(t, s, m)
		if len(s.Ids()) != 2 {
			t.Errorf("two objects of the kind %d: %d ids", kind, len(s.Ids()))
		}
	}
}

// P10.1: objects that differ in their kind alone, in one bit or in their length
// are others.
func TestNearlySame(t *testing.T) {
	var l []api.Object
	for _, kind := range kinds {
		for _, body := range []string{"", "x", "xx", "xx\x00", "\x00xx", "blob 0\x00", "blob 1\x00x"} {
			l = append(l, of(kind, body))
		}
		for bit := range 64 {
			b := []byte("eight by")
			b[bit/8] ^= 1 << (bit % 8)
			l = append(l, of(kind, string(b)))
		}
		for n := range 300 {
			l = append(l, of(kind, strings.Repeat("a", n+1)))
		}
	}
	s, m := filled(t, l...)
	if len(m) != len(l) || len(s.Ids()) != len(l) {
		t.Errorf("%d objects: %d ids", len(l), len(s.Ids()))
	}
}

// P10.1: a body has at most MaxBody bytes.
func TestLengths(t *testing.T) {
	for _, kind := range kinds {
		s, m := filled(t, of(api.Blob, "hi"))
		for _, n := range []int{0, 1, 255, 256, 65535, api.MaxBody, api.MaxBody + 1, api.MaxBody + 2, 2 * api.MaxBody, 1 << 20} {
			o := of(kind, strings.Repeat("x", n))
			put(t, s, m, o)
			hold(t, s, m)
			if _, err := s.Put(o); (err == api.OK) != (n <= api.MaxBody) {
				t.Errorf("Put of %d bytes: error %d", n, err)
			}
		}
	}
}

// P10.1: a kind that there is not is refused, and nothing has changed.
func TestKinds(t *testing.T) {
	s, m := filled(t, of(api.Blob, "hi"))
	for _, kind := range badKinds {
		for _, body := range []string{"", "hi", strings.Repeat("x", api.MaxBody), strings.Repeat("x", api.MaxBody+1)} {
			if id, err := s.Put(of(kind, body)); id != (api.Id{}) || err != api.ErrKind {
				t.Errorf("Put of the kind %d with %d bytes: %x, error %d", kind, len(body), id, err)
			}
		}
		hold(t, s, m)
	}
}

// P10.1: a store has at most MaxObjects objects; one that is there may be put
// again, and what is refused is refused as elsewhere.
func TestFull(t *testing.T) {
	s, m := objects.New(), model{}
	for n := range api.MaxObjects - 1 {
		put(t, s, m, numbered(n))
	}
	almost := s.Fork()
	put(t, s, m, of(api.Commit, "the last one"))
	hold(t, s, m)
	for _, full := range []*objects.Store{s, s.Fork()} {
		for _, o := range []api.Object{of(api.Blob, ""), of(api.Tree, ""), of(api.Commit, ""), of(api.Blob, "the last one"), of(api.Tree, "0"), numbered(api.MaxObjects), of(api.Blob, strings.Repeat("x", api.MaxBody+1)), of(0, "x"), of(4, "x"), of(9, strings.Repeat("x", api.MaxBody+1))} {
			if id, err := full.Put(o); id != (api.Id{}) || err != cmp.Or(map[int]api.Errno{0: api.ErrKind, 4: api.ErrKind, 9: api.ErrKind}[o.Kind], api.ErrLimit) {
				t.Errorf("Put of the kind %d with %d bytes into a full store: %x, error %d", o.Kind, len(o.Body), id, err)
			}
		}
		for n := range api.MaxObjects - 1 {
			put(t, full, m, numbered(n))
		}
		put(t, full, m, of(api.Commit, "the last one"))
		hold(t, full, m)
	}
	if _, err := almost.Put(of(api.Tree, "room for this one")); err != api.OK || len(almost.Ids()) != api.MaxObjects {
		t.Errorf("a store with room for one object: error %d, %d ids", err, len(almost.Ids()))
	}
	if _, err := almost.Put(of(api.Commit, "the last one")); err != api.ErrLimit {
		t.Errorf("a store that has become full: error %d", err)
	}
}

// alike are blobs two and two of whose ids begin with the same four bytes.
func alike(t *testing.T) []api.Object {
	t.Helper()
	var l []api.Object
	seen := map[[4]byte]int{}
	for n := range 250000 {
		id := idOf(numbered(n))
		if k, ok := seen[[4]byte(id[:4])]; ok {
			l = append(l, numbered(k), numbered(n))
		}
		seen[[4]byte(id[:4])] = n
	}
	if len(l) < 4 {
		t.Fatalf("%d ids that begin alike", len(l))
	}
	return l
}

// P10.1: ids that begin alike are the ids of several objects.
func TestAlike(t *testing.T) {
	l := alike(t)
	filled(t, l...)
	s, m := objects.New(), model{}
	for _, o := range l {
		holdId(t, s, m, idOf(o))
		put(t, s, m, o)
		hold(t, s, m)
	}
	// Ids with great first bytes, and with first bytes that are 0.
	for n := range 300000 {
		if id := idOf(numbered(n)); id[0] == 255 && id[1] > 252 || id[0] == 0 && id[1] == 0 {
			put(t, s, m, numbered(n))
		}
	}
	hold(t, s, m)
	if ids := s.Ids(); ids[0][0] != 0 || ids[len(ids)-1][0] != 255 {
		t.Errorf("the first and the last of %d ids: %x, %x", len(ids), ids[0], ids[len(ids)-1])
	}
}

// P10.1: the order of the ids does not hang on the order in which objects came.
func TestOrder(t *testing.T) {
	var l []api.Object
	for n := range 1000 {
		l = append(l, numbered(n))
	}
	up, m := filled(t, l...)
	slices.Reverse(l)
	down, _ := filled(t, l...)
	slices.SortFunc(l, func(a, b api.Object) int { return bytes.Compare(a.Body, b.Body) })
	other, _ := filled(t, l...)
	for _, s := range []*objects.Store{up, down, other} {
		hold(t, s, m)
		if !slices.Equal(s.Ids(), up.Ids()) {
			t.Error("the same objects in another order have other ids")
		}
	}
}

// P10.1: each call of objects of each kind, right and wrong bodies among them,
// and of ids of which there is no object.
func TestEachKind(t *testing.T) {
	bodies := slices.Concat(goodTrees(), badTrees(), goodCommits(), badCommits())
	s, m := objects.New(), model{}
	for _, kind := range kinds {
		for _, body := range bodies {
			put(t, s, m, of(kind, body))
		}
	}
	hold(t, s, m)
	refusals := func(o api.Object) [3]api.Errno {
		_, a := s.Tree(idOf(o))
		_, b := s.Commit(idOf(o))
		_, c := s.Blob(idOf(o))
		return [3]api.Errno{a, b, c}
	}
	check := func(kind int, bodies []string, want [3]api.Errno) {
		for _, body := range bodies {
			if got := refusals(of(kind, body)); got != want {
				t.Errorf("the kind %d with %.80q: errors %d; want %d", kind, body, got, want)
			}
		}
	}
	check(api.Blob, bodies, [3]api.Errno{api.ErrKind, api.ErrKind, api.OK})
	check(api.Tree, goodTrees(), [3]api.Errno{api.OK, api.ErrKind, api.ErrKind})
	check(api.Tree, slices.Concat(badTrees(), goodCommits(), badCommits()[1:]), [3]api.Errno{api.ErrForm, api.ErrKind, api.ErrKind})
	check(api.Commit, goodCommits(), [3]api.Errno{api.ErrKind, api.OK, api.ErrKind})
	check(api.Commit, slices.Concat(badCommits(), goodTrees(), badTrees()), [3]api.Errno{api.ErrKind, api.ErrForm, api.ErrKind})
	for _, kind := range kinds {
		check(kind, []string{"not there", "hi"}, [3]api.Errno{api.ErrNone, api.ErrNone, api.ErrNone})
	}
}

// P10.1: an object that was put stays, whatever comes behind it, and also where
// that is refused.
func TestRemains(t *testing.T) {
	s, m := objects.New(), model{}
	for n, body := range slices.Concat(goodTrees(), badTrees(), goodCommits(), badCommits()) {
		for _, kind := range []int{api.Tree, 0, api.Blob, 4, api.Commit, -1, api.Tree} {
			put(t, s, m, of(kind, body))
			put(t, s, m, of(kind, body+strings.Repeat("x", api.MaxBody+1)))
		}
		if n%4 == 0 {
			hold(t, s, m)
		}
	}
	hold(t, s, m)
}

// R3: what was handed in may be changed behind the call.
func TestHandedIn(t *testing.T) {
	for _, kind := range kinds {
		room := append(make([]byte, 0, 100), "hello"...)
		o := api.Object{Kind: kind, Body: room[:5]}
		s, m := filled(t, o, o)
		fork := s.Fork()
		for i := range room[:100] {
			room[:100][i] = 'z'
		}
		hold(t, s, m)
		hold(t, fork, m)
		put(t, s, m, o)
		put(t, s, m, of(kind, "hello"))
		hold(t, s, m)
	}
}

// R3: what is handed in stays as it was, beyond its length too.
func TestArgumentsStay(t *testing.T) {
	b := []byte(strings.Repeat("some bytes and more ", 20))
	before := bytes.Clone(b)
	s := objects.New()
	for n := range b {
		for kind := -1; kind <= 4; kind++ {
			o := api.Object{Kind: kind, Body: b[:n]}
			s.Put(o)
			s.Put(o)
			if o.Kind != kind || len(o.Body) != n {
				t.Fatal("the object itself has changed")
			}
		}
	}
	if !bytes.Equal(b, before) {
		t.Error("what was handed in is not what it was")
	}
}

// R3: what was handed out may be changed, and the store has what it had.
func TestHandedOut(t *testing.T) {
	blob, list, record := of(api.Blob, "hello"), of(api.Tree, goodTrees()[6]), of(api.Commit, goodCommits()[3])
	s, m := filled(t, blob, list, record)
	fork := s.Fork()
	for range 2 {
		for _, o := range []api.Object{blob, list, record} {
			got, _ := s.Get(idOf(o))
			clear(got.Body[:cap(got.Body)])
		}
		b, _ := s.Blob(idOf(blob))
		clear(b[:cap(b)])
		l, _ := s.Tree(idOf(list))
		clear(l[:cap(l)])
		c, _ := s.Commit(idOf(record))
		clear(c.Parents[:cap(c.Parents)])
		ids := s.Ids()
		clear(ids[:cap(ids)])
		hold(t, s, m)
		hold(t, fork, m)
	}
	one, _ := s.Blob(idOf(blob))
	two, _ := s.Blob(idOf(blob))
	three, _ := s.Get(idOf(blob))
	four, _ := s.Get(idOf(blob))
	one[0], three.Body[1] = 'x', 'y'
	if string(two) != "hello" || string(four.Body) != "hello" {
		t.Errorf("two answers share their bytes: %q, %q", two, four.Body)
	}
}

// P10.1: a copy has what the store had, and each goes on alone.
func TestFork(t *testing.T) {
	l := slices.Concat(blobs("a", "b", ""), []api.Object{of(api.Tree, ""), of(api.Tree, goodTrees()[6]), of(api.Commit, goodCommits()[3])})
	for n := range len(l) + 1 {
		s, m := filled(t, l[:n]...)
		fork, mf := s.Fork(), maps.Clone(m)
		if fork == nil || fork == s {
			t.Fatal("a copy is a store of its own")
		}
		hold(t, fork, mf)
		put(t, s, m, of(api.Blob, "in the store"))
		hold(t, fork, mf)
		put(t, fork, mf, of(api.Blob, "in the copy"))
		hold(t, s, m)
		second, ms := fork.Fork(), maps.Clone(mf)
		put(t, second, ms, of(api.Blob, "in the copy of the copy"))
		put(t, fork, mf, of(api.Tree, "in the copy"))
		put(t, s, m, of(api.Blob, "in the copy"))
		hold(t, s, m)
		hold(t, fork, mf)
		hold(t, second, ms)
	}
}

// P10.1: a nil store.
func TestNil(t *testing.T) {
	var s *objects.Store
	for _, o := range []api.Object{of(api.Blob, "a"), of(api.Tree, ""), of(0, ""), of(9, "x"), of(api.Blob, strings.Repeat("x", api.MaxBody+1)), {}} {
		if id, err := s.Put(o); id != (api.Id{}) || err != api.ErrNil {
			t.Errorf("Put of the kind %d: %x, error %d", o.Kind, id, err)
		}
	}
	for _, id := range []api.Id{{}, {1}, idOf(of(api.Blob, "a")), idOf(of(api.Tree, ""))} {
		o, is := s.Get(id)
		l, e1 := s.Tree(id)
		c, e2 := s.Commit(id)
		b, e3 := s.Blob(id)
		if is || o.Kind != 0 || len(o.Body)+len(l)+len(b) != 0 || !sameRecord(c, api.Record{}) || e1 != api.ErrNil || e2 != api.ErrNil || e3 != api.ErrNil {
			t.Errorf("the id %x: the kind %d, %t; errors %d, %d, %d", id, o.Kind, is, e1, e2, e3)
		}
	}
	if len(s.Ids()) != 0 || s.Fork() != nil {
		t.Errorf("%d ids, the copy %v", len(s.Ids()), s.Fork())
	}
}

// P10.1: all rows of a few calls on a store and its copies, held against models.
func TestRowsOfCalls(t *testing.T) {
	l := []api.Object{of(api.Blob, ""), of(api.Tree, ""), of(api.Tree, "x"), of(0, "x"), of(api.Blob, strings.Repeat("x", api.MaxBody+1))}
	var walk func(s *objects.Store, m model, left int)
	walk = func(s *objects.Store, m model, left int) {
		hold(t, s, m)
		if left == 0 {
			return
		}
		for _, o := range l {
			fork, mf := s.Fork(), maps.Clone(m)
			put(t, fork, mf, o)
			walk(fork, mf, left-1)
			hold(t, s, m)
		}
	}
	walk(objects.New(), model{}, 4)
}

// P10.1: a long row of calls on several stores, held against models.
func TestLongRow(t *testing.T) {
	stores, models := []*objects.Store{objects.New()}, []model{{}}
	x := uint32(7)
	next := func(n int) int {
		x = x*1664525 + 1013904223
		return int(x>>16) % n
	}
	for step := range 3000 {
		i := next(len(stores))
		if next(40) == 0 && len(stores) < 12 {
			stores, models = append(stores, stores[i].Fork()), append(models, maps.Clone(models[i]))
		}
		put(t, stores[i], models[i], of(next(5), fmt.Sprint(next(100))))
		if step%200 == 0 {
			for k, s := range stores {
				hold(t, s, models[k])
			}
		}
	}
	for k, s := range stores {
		hold(t, s, models[k])
	}
}

// R2: stores at the same time do not meet, and many may ask one store.
func TestAtTheSameTime(t *testing.T) {
	shared, ms := filled(t, slices.Concat(blobs("a", "b", "c"), []api.Object{of(api.Tree, goodTrees()[6]), of(api.Commit, goodCommits()[3])})...)
	var group sync.WaitGroup
	for n := range 8 {
		group.Go(func() {
			s, m := shared.Fork(), maps.Clone(ms)
			for k := range 50 {
				put(t, s, m, numbered(n*30+k))
			}
			hold(t, s, m)
			hold(t, shared, ms)
		})
	}
	group.Wait()
	hold(t, shared, ms)
}
