package object_test

import (
	"bytes"
	"crypto/sha1"
	"encoding/hex"
	"math"
	"regexp"
	"strconv"
	"strings"
	"sync"
	"testing"

	"trestle/api"
	"trestle/object"
)

// words has the kinds there are.
var words = map[int]string{api.Blob: "blob", api.Tree: "tree", api.Commit: "commit"}

// badKinds are kinds below, beside and above those there are, and such as wrap
// round to them in fewer bits.
var badKinds = []int{math.MinInt, math.MinInt + 1, -1 << 32, -256, -3, -2, -1, 0, 4, 5, 6, 255, 256, 257, 258, 259, 65537, 1<<32 + 1, 1<<32 + 2, 1<<32 + 3, math.MaxInt - 1, math.MaxInt}

// varied has n bytes, hardly two pieces of which are the same.
func varied(n int) []byte {
	b := make([]byte, n)
	x := uint32(1)
	for i := range b {
		x = x*1664525 + 1013904223
		b[i] = byte(x >> 24)
	}
	return b
}

// bodies are of every sort that an object may have.
func bodies() [][]byte {
	l := [][]byte{
		nil, {}, {0}, {0, 0}, []byte("hi"), []byte("\x00hi"), []byte("hi\x00"), []byte("h\x00i"), []byte("\n"), []byte(" "), []byte("0"), []byte("\xff\xfe"),
		[]byte("blob 2\x00hi"), []byte("blob 0\x00"), []byte("tree 0\x00"), []byte("commit 7\x00blob 0\x00"), []byte("blob"), []byte("2\x00"), []byte(" 2\x00hi"),
		make([]byte, 1000), make([]byte, api.MaxBody), bytes.Repeat([]byte("blob 0\x00"), 9000),
	}
	for _, n := range []int{1, 2, 9, 10, 11, 42, 99, 100, 101, 255, 256, 999, 1000, 1001, 9999, 10000, 10001, 65535, api.MaxBody} {
		l = append(l, varied(n))
	}
	return l
}

// encoded is what the chapter says of an encoding, by other means than the package's.
func encoded(word string, body []byte) []byte {
	var b bytes.Buffer
	b.WriteString(word)
	b.WriteByte(' ')
	b.WriteString(strconv.Itoa(len(body)))
	b.WriteByte(0)
	b.Write(body)
	return b.Bytes()
}

var form = regexp.MustCompile(`^(blob|tree|commit) (0|[1-9][0-9]{0,4})\x00`)

// parsed is what the chapter says of Parse; false: no object.
func parsed(b []byte) (api.Object, bool) {
	m := form.FindSubmatch(b)
	if m == nil {
		return api.Object{}, false
	}
	body := b[len(m[0]):]
	n, _ := strconv.Atoi(string(m[2]))
	if n > 65536 || n != len(body) {
		return api.Object{}, false
	}
	for kind, word := range words {
		if word == string(m[1]) {
			return api.Object{Kind: kind, Body: body}, true
		}
	}
	return api.Object{}, false
}

// same tells whether two objects are equal, where no body is an empty one.
func same(a, b api.Object) bool { return a.Kind == b.Kind && bytes.Equal(a.Body, b.Body) }

// refused expects ErrForm of Parse and nothing beside it.
func refused(t *testing.T, b []byte) {
	t.Helper()
	if o, err := object.Parse(b); err != api.ErrForm || o.Kind != 0 || len(o.Body) != 0 {
		t.Errorf("Parse of %d bytes %.60q: kind %d, %d bytes, error %d; want the zero object and ErrForm", len(b), b, o.Kind, len(o.Body), err)
	}
}

// hold holds what Parse answers against the chapter.
func hold(t *testing.T, b []byte) {
	t.Helper()
	want, ok := parsed(b)
	if !ok {
		refused(t, b)
		return
	}
	got, err := object.Parse(b)
	if err != api.OK || !same(got, want) {
		t.Errorf("Parse of %d bytes %.60q: kind %d, %d bytes %.60q, error %d; want kind %d, %d bytes", len(b), b, got.Kind, len(got.Body), got.Body, err, want.Kind, len(want.Body))
		return
	}
	if again, err := object.Print(got); err != api.OK || !bytes.Equal(again, b) {
		t.Errorf("Parse of %d bytes %.60q is an object that Print makes %.60q of, error %d", len(b), b, again, err)
	}
}

// P7.1: known objects and their ids, byte by byte.
func TestKnownObjects(t *testing.T) {
	const (
		tree   = "100644 a\x00\xe6\x9d\xe2\x9b\xb2\xd1\xd6CK\x8b)\xaewZ\xd8\xc2\xe4\x8cS\x91"
		commit = "tree 4b825dc642cb6eb9a060e54bf8d69288fbee4904\nauthor A <a@b> 5 -0130\ncommitter A <a@b> 5 -0130\n\nx\n"
	)
	for _, r := range []struct {
		o    api.Object
		want string
		id   string
		what string
	}{
		{api.Object{Kind: api.Blob}, "blob 0\x00", "e69de29bb2d1d6434b8b29ae775ad8c2e48c5391", "the blob of no bytes"},
		{api.Object{Kind: api.Tree}, "tree 0\x00", "4b825dc642cb6eb9a060e54bf8d69288fbee4904", "the tree of no items"},
		{api.Object{Kind: api.Blob, Body: []byte("hi")}, "blob 2\x00hi", "32f95c0d1244a78b2be1bab8de17906fabb2c4a8", "the example of the chapter"},
		{api.Object{Kind: api.Blob, Body: []byte("hello\n")}, "blob 6\x00hello\n", "ce013625030ba8dba906f756967f9e9ca394464a", "a line"},
		{api.Object{Kind: api.Blob, Body: []byte("what is up, doc?")}, "blob 16\x00what is up, doc?", "bd9dbf5aae1a3862dd1526723246b20206e5fc37", "two digits"},
		{api.Object{Kind: api.Blob, Body: []byte{0}}, "blob 1\x00\x00", "f76dd238ade08917e6712764a16a22005a50573d", "a zero byte"},
		{api.Object{Kind: api.Tree, Body: []byte(tree)}, "tree 29\x00" + tree, "496d6428b9cf92981dc9495211e6e1120fb6f2ba", "a tree of one file"},
		{api.Object{Kind: api.Commit, Body: []byte(commit)}, "commit 98\x00" + commit, "cc65b5e8b6ca2b1ed878e36b61ab9aeed925bef0", "a commit"},
	} {
		got, err := object.Print(r.o)
		if err != api.OK || string(got) != r.want {
			t.Errorf("Print of %s: %q, error %d; want %q", r.what, got, err, r.want)
		}
		id := object.Id(r.o)
		if hex.EncodeToString(id[:]) != r.id {
			t.Errorf("Id of %s: %x; want %s", r.what, id, r.id)
		}
		if o, err := object.Parse([]byte(r.want)); err != api.OK || !same(o, r.o) {
			t.Errorf("Parse of %s: %+v, error %d; want %+v", r.what, o, err, r.o)
		}
	}
}

// P7.1: the word of each kind, and of kinds that there are not.
func TestWord(t *testing.T) {
	for kind := -1000; kind <= 1000; kind++ {
		if got := object.Word(kind); got != words[kind] {
			t.Errorf("Word(%d): %q; want %q", kind, got, words[kind])
		}
	}
	for _, kind := range badKinds {
		if got := object.Word(kind); got != "" {
			t.Errorf("Word(%d): %q; want an empty text", kind, got)
		}
	}
}

// P7.1: each kind with each sort of body is printed, summed and parsed.
func TestThereAndBack(t *testing.T) {
	seen := map[api.Id]api.Object{}
	for kind, word := range words {
		for _, body := range bodies() {
			o := api.Object{Kind: kind, Body: body}
			want := encoded(word, body)
			got, err := object.Print(o)
			if err != api.OK || !bytes.Equal(got, want) {
				t.Errorf("Print of a %s of %d bytes: %.60q, error %d; want %.60q", word, len(body), got, err, want)
			}
			id := object.Id(o)
			if id != api.Id(sha1.Sum(want)) {
				t.Errorf("Id of a %s of %d bytes: %x; want %x", word, len(body), id, sha1.Sum(want))
			}
			if back, err := object.Parse(want); err != api.OK || !same(back, o) {
				t.Errorf("Parse of a %s of %d bytes: kind %d, %d bytes, error %d", word, len(body), back.Kind, len(back.Body), err)
			}
			if other, ok := seen[id]; ok && !same(o, other) {
				t.Errorf("one id for a %s of %d bytes and kind %d of %d bytes", word, len(body), other.Kind, len(other.Body))
			}
			seen[id] = o
		}
	}
}

// P7.1: bodies of each length where the number of digits grows, and of a good many more.
func TestEachLength(t *testing.T) {
	long := varied(11000)
	for n := 0; n < len(long); n = max(n+1, n*51/50) {
		o := api.Object{Kind: 1 + n%3, Body: long[:n]}
		want := encoded(words[o.Kind], o.Body)
		got, err := object.Print(o)
		if err != api.OK || !bytes.Equal(got, want) || object.Id(o) != api.Id(sha1.Sum(want)) {
			t.Errorf("Print of %d bytes: %.40q, error %d", n, got, err)
		}
		hold(t, want)
	}
}

// P7.1: a body with one byte more than there may be, and with many more.
func TestTooLong(t *testing.T) {
	for kind, word := range words {
		for _, n := range []int{api.MaxBody + 1, api.MaxBody + 2, 2 * api.MaxBody, 2*api.MaxBody + 1, 1 << 20} {
			o := api.Object{Kind: kind, Body: make([]byte, n)}
			if b, err := object.Print(o); err != api.ErrLimit || len(b) != 0 {
				t.Errorf("Print of a %s of %d bytes: %d bytes, error %d; want none and ErrLimit", word, n, len(b), err)
			}
			if id := object.Id(o); id != (api.Id{}) {
				t.Errorf("Id of a %s of %d bytes: %x; want zero", word, n, id)
			}
			refused(t, encoded(word, o.Body))
		}
	}
}

// P7.1: kinds that there are not, which are told ahead of a body that is too long.
func TestBadKinds(t *testing.T) {
	for _, kind := range badKinds {
		for _, body := range [][]byte{nil, {}, []byte("hi"), make([]byte, api.MaxBody), make([]byte, api.MaxBody+1), make([]byte, 1<<20)} {
			o := api.Object{Kind: kind, Body: body}
			if b, err := object.Print(o); err != api.ErrKind || len(b) != 0 {
				t.Errorf("Print of the kind %d with %d bytes: %d bytes, error %d; want none and ErrKind", kind, len(body), len(b), err)
			}
			if id := object.Id(o); id != (api.Id{}) {
				t.Errorf("Id of the kind %d with %d bytes: %x; want zero", kind, len(body), id)
			}
		}
	}
}

// P7.1: texts that have not the form: no bytes at all, other words, other
// spaces, other numbers, no byte 0.
func TestParseRefuses(t *testing.T) {
	for _, s := range []string{
		"", "\x00", "\x00\x00", " ", " \x00", "  \x00", "0", "0\x00", " 0\x00", "b", "blob", "blob ", "blob 0", "blob\x00", "blob \x00", "blob0\x00", "blob 2", "blob 2hi", "blob 2 hi", "blob 2\nhi", "hi", "blob\x000\x00", "blob\x002\x00hi", "\x00blob 0\x00", "\nblob 0\x00",
		"Blob 0\x00", "Tree 0\x00", "Commit 0\x00", "BLOB 0\x00", "bLob 0\x00", "bloB 0\x00", "tag 0\x00", "blo 0\x00", "blobb 0\x00", "lob 0\x00", "trees 0\x00", "commi 0\x00", "commits 0\x00", "x 0\x00", "é 0\x00", "blob tree 0\x00", "1 0\x00", "blob,tree 0\x00", "blobtree 0\x00", "\ufeffblob 0\x00", "\xff 0\x00",
		"blob  0\x00", " blob 0\x00", "blob 0 \x00", "blob   0\x00", "blob\t0\x00", "blob\n0\x00", "blob\u00a00\x00", "blob 0 0\x00", "blob 2  \x00hi", "blob  2\x00hi", "blob 2 \x00hi",
		"blob 00\x00", "blob 02\x00hi", "blob 002\x00hi", "blob +2\x00hi", "blob -2\x00hi", "blob +0\x00", "blob -0\x00", "blob --2\x00hi", "blob 2.0\x00hi", "blob 2e0\x00hi", "blob 0x2\x00hi", "blob 2a\x00hi", "blob a\x00", "blob two\x00hi", "blob \u0662\x00hi", "blob 2\u0662\x00hi", "blob \uff12\x00hi", "blob 1_0\x000123456789", "blob 1,0\x000123456789", "blob 2é\x00hi", "blob \xff\x00", "blob 2\xff\x00hi",
		"blob 1\x00hi", "blob 3\x00hi", "blob 0\x00hi", "blob 4\x00hi", "blob 20\x00hi", "blob 2\x00", "blob 2\x00h", "blob 2\x00hi\x00", "blob 2\x00\x00hi", "blob 2\x00hi\n", "blob 2\x00hi ", "blob 2\x00hiblob 2\x00hi", "blob 1\x00", "blob 0\x00\x00", "blob 0\x00a", "blob -1\x00", "blob -1\x00a",
		"blob 65536\x00", "blob 65537\x00", "blob 65538\x00hi", "blob 131074\x00hi", "blob 4294967296\x00", "blob 4294967298\x00hi", "blob 9223372036854775807\x00", "blob 9223372036854775808\x00", "blob 18446744073709551616\x00", "blob 18446744073709551618\x00hi", "blob -18446744073709551614\x00hi", "blob 340282366920938463463374607431768211458\x00hi",
		"blob " + strings.Repeat("0", 1000) + "2\x00hi", "blob " + strings.Repeat("9", 1000) + "\x00hi", strings.Repeat("blob", 1000), strings.Repeat(" ", 1000) + "\x00",
	} {
		refused(t, []byte(s))
		refused(t, []byte(strings.Replace(strings.Replace(s, "blob", "commit", 1), "Blob", "Commit", 1)))
		if _, ok := parsed([]byte(s)); ok {
			t.Errorf("the reading of these tests takes %q", s)
		}
	}
}

// P7.1: each number around the one that an encoding should have, and many more.
func TestEachNumber(t *testing.T) {
	for _, n := range []int{0, 1, 2, 9, 10, 11, 99, 100, 65535, 65536, 65537} {
		body := varied(n)
		for _, word := range words {
			for m := -2; m <= 120; m++ {
				hold(t, append([]byte(word+" "+strconv.Itoa(m)+"\x00"), body...))
				hold(t, append([]byte(word+" "+strconv.Itoa(n+m)+"\x00"), body...))
			}
			for _, sum := range []uint64{1 << 8, 1 << 16, 1 << 32, 1 << 63} {
				hold(t, append([]byte(word+" "+strconv.FormatUint(sum+uint64(n), 10)+"\x00"), body...))
			}
		}
	}
}

// P7.1: each prefix and each end of an encoding, and each byte left out, put
// in and turned into each other one.
func TestNearlyPrinted(t *testing.T) {
	for _, s := range []string{"blob 2\x00hi", "tree 0\x00", "commit 12\x00blob 5\x00hello", "blob 11\x00\x00\x00 0 1 2 3\x00 "} {
		hold(t, []byte(s))
		for i := range len(s) {
			hold(t, []byte(s[:i]))
			hold(t, []byte(s[i+1:]))
			hold(t, []byte(s[:i]+s[i+1:]))
			hold(t, []byte(s[:i]+s[i:i+1]+s[i:]))
			for c := range 256 {
				b := string([]byte{byte(c)})
				hold(t, []byte(s[:i]+b+s[i+1:]))
				hold(t, []byte(s[:i]+b+s[i:]))
				hold(t, []byte(s+b))
			}
		}
	}
}

// P7.1: all rows of a few pieces of encodings.
func TestRowsOfPieces(t *testing.T) {
	pieces := []string{"blob", "tree", "commit", " ", "\x00", "0", "1", "2", "-", "h", "\xff"}
	var walk func(s string, left int)
	walk = func(s string, left int) {
		hold(t, []byte(s))
		if left == 0 {
			return
		}
		for _, p := range pieces {
			walk(s+p, left-1)
		}
	}
	walk("", 4)
	for _, word := range words {
		walk(word+" ", 4)
		walk(word+" 2", 4)
		walk(word+" 2\x00", 4)
	}
}

// P7.1: a body that is an encoding itself is a body, and comes back as it is.
func TestNested(t *testing.T) {
	o := api.Object{Kind: api.Blob}
	for n := range 200 {
		b, err := object.Print(o)
		if err != api.OK {
			t.Fatalf("Print at the depth %d: error %d", n, err)
		}
		if back, err := object.Parse(b); err != api.OK || !same(back, o) {
			t.Fatalf("Parse at the depth %d: kind %d, %d bytes, error %d", n, back.Kind, len(back.Body), err)
		}
		o = api.Object{Kind: 1 + n%3, Body: b}
	}
}

// R3: what is handed in stays as it was, beyond the length of a body too.
func TestArgumentsStay(t *testing.T) {
	for _, n := range []int{0, 1, 7, 100, 1000} {
		for kind := -1; kind <= 5; kind++ {
			b := varied(3000)
			o := api.Object{Kind: kind, Body: b[:n]}
			object.Id(o)
			object.Print(o)
			if !bytes.Equal(b, varied(3000)) || len(o.Body) != n || o.Kind != kind {
				t.Errorf("Print or Id of the kind %d with %d bytes has changed it", kind, n)
			}
		}
		whole := append(encoded("blob", varied(n)), varied(500)...)
		before := bytes.Clone(whole)
		for i := range len(whole) {
			object.Parse(whole[:i])
		}
		if !bytes.Equal(whole, before) {
			t.Errorf("Parse of up to %d bytes has changed them", len(whole))
		}
	}
}

// R3: an answer is new memory.
func TestAnswersAreNew(t *testing.T) {
	body := append(make([]byte, 0, 1000), "hello"...)
	b, _ := object.Print(api.Object{Kind: api.Blob, Body: body})
	again, _ := object.Print(api.Object{Kind: api.Blob, Body: body})
	for i := range b {
		b[i] = 'x'
	}
	if string(body) != "hello" || string(again) != "blob 5\x00hello" {
		t.Errorf("what Print answers shares its bytes: %q, %q", body, again)
	}
	body[0] = 'j'
	if string(again) != "blob 5\x00hello" {
		t.Errorf("what Print answers hangs on its argument: %q", again)
	}
	first, _ := object.Parse(again)
	second, _ := object.Parse(again)
	first.Body[0] = 'c'
	_ = append(first.Body[:1], "zzzz"...)
	if string(again) != "blob 5\x00hello" || string(second.Body) != "hello" {
		t.Errorf("what Parse answers shares its bytes: %q, %q", again, second.Body)
	}
	again[8] = 'a'
	if string(second.Body) != "hello" {
		t.Errorf("what Parse answers hangs on its argument: %q", second.Body)
	}
}

// R2: bytes beyond what is handed in do not count.
func TestBytesBeyond(t *testing.T) {
	long := encoded("blob", []byte("hello, world"))
	for i := range len(long) {
		refused(t, long[:i])
	}
	o := api.Object{Kind: api.Tree, Body: long[:4]}
	if b, err := object.Print(o); err != api.OK || string(b) != "tree 4\x00blob" || object.Id(o) != api.Id(sha1.Sum(b)) {
		t.Errorf("Print of a piece: %q, error %d", b, err)
	}
}

// R2: calls at the same time answer what they answer one by one.
func TestAtTheSameTime(t *testing.T) {
	body := varied(5000)
	var group sync.WaitGroup
	for n := range 8 {
		group.Go(func() {
			for k := range 100 {
				o := api.Object{Kind: 1 + (n+k)%3, Body: body[n*k : 5*n*k]}
				b, _ := object.Print(o)
				if back, err := object.Parse(b); err != api.OK || !same(back, o) {
					t.Errorf("the kind %d with %d bytes comes back as kind %d with %d bytes, error %d", o.Kind, len(o.Body), back.Kind, len(back.Body), err)
				}
				if object.Id(o) != api.Id(sha1.Sum(encoded(words[o.Kind], o.Body))) {
					t.Errorf("Id of the kind %d with %d bytes: %x", o.Kind, len(o.Body), object.Id(o))
				}
			}
		})
	}
	group.Wait()
}
