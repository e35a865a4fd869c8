package objects

import (
	"testing"

	"trestle/api"
	"trestle/object"
)

// clashing makes a store that has one object under the id of another one: no
// two objects of one id are known that these tests could put.
func clashing(t *testing.T, there, other api.Object) (*Store, api.Id) {
	t.Helper()
	s, id := New(), object.Id(other)
	if err := s.keep(id, there); err != api.OK {
		t.Fatalf("the first object: error %d", err)
	}
	return s, id
}

// P10.1: another object of an id that is there is refused, differ it in its
// bytes, in its length or in its kind alone, and the first one stays.
func TestClash(t *testing.T) {
	other := api.Object{Kind: api.Tree, Body: []byte("hello")}
	for _, there := range []api.Object{
		{Kind: api.Tree, Body: []byte("hellx")}, {Kind: api.Tree, Body: []byte("xello")}, {Kind: api.Tree, Body: []byte("hell")}, {Kind: api.Tree, Body: []byte("hello\x00")}, {Kind: api.Tree},
		{Kind: api.Blob, Body: []byte("hello")}, {Kind: api.Commit, Body: []byte("hello")}, {Kind: api.Blob, Body: []byte("x")},
	} {
		s, id := clashing(t, there, other)
		for _, store := range []*Store{s, s.Fork()} {
			if got, err := store.Put(other); got != (api.Id{}) || err != api.ErrClash {
				t.Errorf("Put where %v is: %x, error %d", there, got, err)
			}
			if o, ok := store.Get(id); !ok || o.Kind != there.Kind || string(o.Body) != string(there.Body) || len(store.Ids()) != 1 {
				t.Errorf("what was there is %v, %t; want %v", o, ok, there)
			}
		}
	}
}

// P10.1: an object of an id that is there is the same one.
func TestNoClash(t *testing.T) {
	for kind := api.Blob; kind <= api.Commit; kind++ {
		o := api.Object{Kind: kind, Body: []byte("hello")}
		s, id := clashing(t, o, o)
		if got, err := s.Put(o); got != id || err != api.OK {
			t.Errorf("Put of the kind %d again: %x, error %d", kind, got, err)
		}
	}
}

// P10.1: a full store tells of a clash ahead of its limit, and of a fault of the
// object ahead of both.
func TestClashAheadOfLimit(t *testing.T) {
	other := api.Object{Kind: api.Blob, Body: []byte("hello")}
	s, _ := clashing(t, api.Object{Kind: api.Blob, Body: []byte("x")}, other)
	for n := range api.MaxObjects - 1 {
		if _, err := s.Put(api.Object{Kind: api.Tree, Body: []byte{byte(n), byte(n >> 8)}}); err != api.OK {
			t.Fatalf("the object %d: error %d", n, err)
		}
	}
	for _, r := range []struct {
		o    api.Object
		want api.Errno
	}{
		{other, api.ErrClash}, {api.Object{Kind: api.Blob, Body: []byte("new")}, api.ErrLimit}, {api.Object{Kind: 4, Body: other.Body}, api.ErrKind},
		{api.Object{Kind: 4, Body: make([]byte, api.MaxBody+1)}, api.ErrKind}, {api.Object{Kind: api.Blob, Body: make([]byte, api.MaxBody+1)}, api.ErrLimit}, {api.Object{Kind: api.Tree, Body: []byte{0, 0}}, api.OK},
	} {
		if _, err := s.Put(r.o); err != r.want {
			t.Errorf("Put of the kind %d with %d bytes: error %d; want %d", r.o.Kind, len(r.o.Body), err, r.want)
		}
	}
}

// R3: what is kept has bytes of its own.
func TestKeptApart(t *testing.T) {
	b := []byte("hello")
	s := New()
	id, _ := s.Put(api.Object{Kind: api.Blob, Body: b})
	if x := s.things[id].bytes(); &x[0] == &b[0] {
		t.Error("what is kept is what was handed in")
	}
	if x := s.things[id].bytes(); kind(s.things[id]) != api.Blob || string(x) != "hello" {
		t.Errorf("what is kept: %q", x)
	}
	if typed(api.Object{Kind: 4}) != nil || kind(nil) != 0 {
		t.Error("a kind that there is not")
	}
}
