package tree_test

import (
	"bytes"
	"encoding/hex"
	"fmt"
	"math"
	"regexp"
	"slices"
	"sort"
	"strconv"
	"strings"
	"sync"
	"testing"
	"unicode/utf8"

	"trestle/api"
	"trestle/object"
	"trestle/tree"
)

// modeWords has the modes there are.
var modeWords = map[int]string{api.ModeFile: "100644", api.ModeExec: "100755", api.ModeLink: "120000", api.ModeTree: "40000"}

// badModes are modes below, beside and above those there are, and such as wrap
// round to them in fewer bits.
var badModes = []int{math.MinInt, math.MinInt + 1, -1 << 32, -256, -2, -1, 0, 5, 6, 255, 256, 257, 258, 259, 260, 65537, 1<<32 + 1, 1<<32 + 4, math.MaxInt - 1, math.MaxInt, 0100644, 100644, 040000, 40000}

// badNames are names that no item may have.
var badNames = []string{
	"", ".", "..", ".git", ".GIT", ".Git", ".giT", "\x00", "a\x00", "\x00a", "a\x00b", "/", "a/", "/a", "a/b", "a/b/c", "//", "./a", "é/a",
	"\xff", "a\xff", "\xc3", "\xc3\x00", "\xed\xa0\x80", "\xc0\x80", "\xf4\x90\x80\x80", "a\xc3/", strings.Repeat("a", api.MaxPath+1), strings.Repeat("é", api.MaxPath/2) + "a", strings.Repeat("a", 1<<16), strings.Repeat("a/", api.MaxDepth) + "a",
}

// goodNames are names that an item may have, odd ones among them.
var goodNames = []string{
	"a", "README.md", "test.txt", "a b", " ", " a", "a ", "  ", "...", ".a", "a.", ".gi", "git", ".gitx", "x.git", ".git ", "..a", "\n", "a\nb", "\t", "\x01", "\x7f", "\\", "a\\b", "\"", "~", ":", "-", "é", "日本", "\U0010ffff", "\ufffd", "\u2215", "\uff0f",
	"100644", "100644 a", "40000 ", "0", strings.Repeat("a", api.MaxPath), strings.Repeat("é", api.MaxPath/2),
}

// near are names that begin alike: a tree's place among them is not its name's.
var near = []string{"a", "a.b", "a-b", "a0", "ab", "a.", "a ", "a!", "aa", "b"}

func idOf(n int) api.Id {
	id := api.Id{19: byte(n)}
	id[n%19] = byte(n>>8) + 1
	return id
}

func item(mode int, name string) api.Item { return of(mode, name, idOf(len(name))) }

func of(mode int, name string, id api.Id) api.Item { return api.Item{Mode: mode, Name: name, Id: id} }

// told tells the first items of a list for a message.
func told(l []api.Item) string {
	s := strconv.Itoa(len(l)) + " items"
	for _, x := range l[:min(4, len(l))] {
		s += fmt.Sprintf(", %d %.20q %x", x.Mode, x.Name, x.Id[:3])
	}
	return s
}

// files are n items in order, of names of as many bytes as told.
func files(n, size int) []api.Item {
	l := make([]api.Item, n)
	for i := range l {
		head := []byte{'a' + byte(i/26/26%26), 'a' + byte(i/26%26), 'a' + byte(i%26)}
		l[i] = api.Item{Mode: api.ModeFile, Name: string(head) + strings.Repeat("x", size-len(head)), Id: idOf(i)}
	}
	return l
}

// encoded is what the chapter says of an encoding, be the list a tree or not.
func encoded(l ...api.Item) []byte {
	var b bytes.Buffer
	for _, x := range l {
		b.WriteString(modeWords[x.Mode])
		b.WriteByte(' ')
		b.WriteString(x.Name)
		b.WriteByte(0)
		b.Write(x.Id[:])
	}
	return b.Bytes()
}

// goodName is what the chapters 3 and 8 say of a name.
func goodName(s string) bool {
	return len(s) >= 1 && len(s) <= 400 && utf8.ValidString(s) && !strings.ContainsAny(s, "\x00/") && s != "." && s != ".." && strings.ToLower(s) != ".git"
}

// ahead is what the chapter says of Before.
func ahead(a, b api.Item) bool {
	x, y := []byte(a.Name), []byte(b.Name)
	if a.Mode == 4 {
		x = append(x, '/')
	}
	if b.Mode == 4 {
		y = append(y, '/')
	}
	return bytes.Compare(x, y) < 0
}

// valid is what the chapter says of Right: each two items are looked at.
func valid(l []api.Item) bool {
	if len(l) < 1 || len(l) > 500 {
		return false
	}
	for i, x := range l {
		if !goodName(x.Name) || x.Id == (api.Id{}) || x.Mode < 1 || x.Mode > 4 {
			return false
		}
		for _, y := range l[:i] {
			if x.Name == y.Name || !ahead(y, x) {
				return false
			}
		}
	}
	return true
}

var itemForm = regexp.MustCompile(`^(?s:(100644|100755|120000|40000) ([^\x00]*)\x00)`)

// parsed is what the chapter says of Parse.
func parsed(b []byte) ([]api.Item, api.Errno) {
	if len(b) > 65536 {
		return nil, api.ErrLimit
	}
	var l []api.Item
	for len(b) > 0 {
		m := itemForm.FindSubmatch(b)
		if m == nil || len(b) < len(m[0])+20 {
			return nil, api.ErrForm
		}
		x := api.Item{Name: string(m[2]), Id: api.Id(b[len(m[0]):][:20])}
		for mode, word := range modeWords {
			if word == string(m[1]) {
				x.Mode = mode
			}
		}
		l = append(l, x)
		b = b[len(m[0])+20:]
	}
	if len(l) > 0 && !valid(l) {
		return nil, api.ErrForm
	}
	return l, api.OK
}

// printed holds what Right and Print answer against the chapter, and what
// Parse makes of it against the list.
func printed(t *testing.T, l []api.Item, want api.Errno) {
	t.Helper()
	if got := tree.Right(l); got != (len(l) > 0 && want != api.ErrOrder) {
		t.Errorf("Right of %s: %v", told(l), got)
	}
	b, err := tree.Print(l)
	if err != want {
		t.Errorf("Print of %s: error %d; want %d", told(l), err, want)
	}
	if want != api.OK {
		if len(b) != 0 {
			t.Errorf("Print of %s: %d bytes beside the error %d", told(l), len(b), err)
		}
		return
	}
	if !bytes.Equal(b, encoded(l...)) {
		t.Errorf("Print of %s: %.300q; want %.300q", told(l), b, encoded(l...))
	}
	if back, err := tree.Parse(b); err != api.OK || !slices.Equal(back, l) {
		t.Errorf("Parse of %.300q: %s, error %d; want %s", b, told(back), err, told(l))
	}
}

// refused expects the error of Parse and nothing beside it.
func refused(t *testing.T, b []byte, want api.Errno) {
	t.Helper()
	if l, err := tree.Parse(b); err != want || len(l) != 0 {
		t.Errorf("Parse of %d bytes %.120q: %d items, error %d; want the error %d alone", len(b), b, len(l), err, want)
	}
}

// hold holds what Parse answers against the chapter.
func hold(t *testing.T, b []byte) {
	t.Helper()
	want, wantErr := parsed(b)
	if wantErr != api.OK {
		refused(t, b, wantErr)
		return
	}
	l, err := tree.Parse(b)
	if err != api.OK || !slices.Equal(l, want) {
		t.Errorf("Parse of %d bytes %.120q: %d items, error %d; want %d items", len(b), b, len(l), err, len(want))
		return
	}
	if again, err := tree.Print(l); err != api.OK || !bytes.Equal(again, b) {
		t.Errorf("Parse of %.120q is a tree that Print makes %.120q of, error %d", b, again, err)
	}
}

func sum(t *testing.T, text string) api.Id {
	t.Helper()
	b, err := hex.DecodeString(text)
	if err != nil {
		t.Fatal(err)
	}
	return api.Id(b)
}

// P8.1: trees whose ids are known.
func TestKnownTrees(t *testing.T) {
	none, empty := sum(t, "e69de29bb2d1d6434b8b29ae775ad8c2e48c5391"), sum(t, "4b825dc642cb6eb9a060e54bf8d69288fbee4904")
	for _, r := range []struct {
		l  []api.Item
		id string
	}{
		{nil, "4b825dc642cb6eb9a060e54bf8d69288fbee4904"},
		{[]api.Item{of(1, "a", none)}, "496d6428b9cf92981dc9495211e6e1120fb6f2ba"},
		{[]api.Item{of(4, "d", empty)}, "5319e8da264dc00f79be24e4ebcc26bf7ec89120"},
		{[]api.Item{of(1, "a", none), of(2, "a-b", none), of(1, "a.b", none), of(3, "a0", none), of(4, "ab", empty)}, "467d8a6ea741dd8885e187a2c5adafca472eb2ee"},
		{[]api.Item{of(1, "a-b", none), of(2, "a.b", none), of(4, "a", empty), of(3, "a0", none), of(4, "é b", empty)}, "1d90a07bd04ffe063a103dad03dba9fadfd74e3e"},
	} {
		b, err := tree.Print(r.l)
		if id := object.Id(api.Object{Kind: api.Tree, Body: b}); err != api.OK || id != sum(t, r.id) {
			t.Errorf("Print of %s: %q of the id %x, error %d; want %s", told(r.l), b, id, err, r.id)
		}
		printed(t, r.l, api.OK)
	}
}

// P8.1: the bytes of an item of each mode, as the chapter tells them.
func TestPrintOfEachMode(t *testing.T) {
	id := api.Id{1, 0, 2, 32, 47, 10, 255, 19: 7}
	for mode, head := range map[int]string{api.ModeFile: "100644 a\x00", api.ModeExec: "100755 a\x00", api.ModeLink: "120000 a\x00", api.ModeTree: "40000 a\x00"} {
		want := head + "\x01\x00\x02\x20\x2f\x0a\xff\x00\x00\x00\x00\x00\x00\x00\x00\x00\x00\x00\x00\x07"
		l := []api.Item{{Mode: mode, Name: "a", Id: id}}
		if b, err := tree.Print(l); err != api.OK || string(b) != want {
			t.Errorf("Print of the mode %d: %q, error %d; want %q", mode, b, err, want)
		}
		if back, err := tree.Parse([]byte(want)); err != api.OK || !slices.Equal(back, l) {
			t.Errorf("Parse of %q: %s, error %d", want, told(back), err)
		}
	}
}

// P8.1: no item is no tree, but has an encoding.
func TestNoItem(t *testing.T) {
	for _, l := range [][]api.Item{nil, {}, make([]api.Item, 0, 5)} {
		if b, err := tree.Print(l); err != api.OK || len(b) != 0 || tree.Right(l) {
			t.Errorf("Print of no item: %q, error %d; Right: %v", b, err, tree.Right(l))
		}
	}
	for _, b := range [][]byte{nil, {}, make([]byte, 0, 50)} {
		if l, err := tree.Parse(b); err != api.OK || len(l) != 0 {
			t.Errorf("Parse of no byte: %s, error %d", told(l), err)
		}
	}
}

// P8.1: one item of each mode, and of others.
func TestModes(t *testing.T) {
	for mode := -3; mode <= 9; mode++ {
		want := api.ErrOrder
		if 1 <= mode && mode <= 4 {
			want = api.OK
		}
		printed(t, []api.Item{item(mode, "a")}, want)
	}
	for _, mode := range badModes {
		printed(t, []api.Item{item(mode, "a")}, api.ErrOrder)
		printed(t, []api.Item{item(1, "Z"), item(mode, "a"), item(1, "b")}, api.ErrOrder)
	}
}

// P8.1: a zero id, and ids that are nearly so.
func TestZeroId(t *testing.T) {
	for mode := 1; mode <= 4; mode++ {
		zero := api.Item{Mode: mode, Name: "a"}
		for _, l := range [][]api.Item{{zero}, {item(1, "Z"), zero}, {zero, item(1, "b")}, {item(1, "Z"), zero, item(1, "b")}} {
			printed(t, l, api.ErrOrder)
			refused(t, encoded(l...), api.ErrForm)
		}
		for i := range len(zero.Id) {
			x := zero
			x.Id[i] = 1
			printed(t, []api.Item{x}, api.OK)
		}
	}
}

// P8.1: names, alone and as those of an item of each mode.
func TestNames(t *testing.T) {
	for _, s := range goodNames {
		if !tree.Name(s) || !goodName(s) {
			t.Errorf("Name(%q): false", s)
		}
		for mode := 1; mode <= 4; mode++ {
			printed(t, []api.Item{item(mode, s)}, api.OK)
		}
	}
	for _, s := range badNames {
		if tree.Name(s) || goodName(s) {
			t.Errorf("Name(%.50q) of %d bytes: true", s, len(s))
		}
		for mode := 1; mode <= 4; mode++ {
			l := []api.Item{item(mode, s), item(mode, s+"b"), item(mode, "~")}
			printed(t, l[:1], api.ErrOrder)
			printed(t, l, api.ErrOrder)
			hold(t, encoded(l[0]))
		}
	}
}

// P8.1: each length of a name up to the limit and beyond it, in bytes.
func TestNameLength(t *testing.T) {
	for n := range api.MaxPath + 3 {
		for _, s := range []string{strings.Repeat("a", n), strings.Repeat("é", n/2) + strings.Repeat("a", n%2)} {
			want := 1 <= n && n <= api.MaxPath
			if got := tree.Name(s); got != want {
				t.Errorf("Name of %d bytes: %v", n, got)
			}
			hold(t, encoded(item(1, s)))
		}
	}
	if tree.Name(strings.Repeat("a", 1<<22)) || tree.Name(strings.Repeat("/", 1<<22)) {
		t.Error("Name of very many bytes: true")
	}
}

// P8.1: each byte as a name, and at the front, in the midst and at the end of one.
func TestNameOfEachByte(t *testing.T) {
	for i := range 256 {
		c := string([]byte{byte(i)})
		for _, s := range []string{c, c + "a", "a" + c, "a" + c + "b", "é" + c, c + "é", ".git" + c, c + ".git", "." + c, "." + c + "it"} {
			if got := tree.Name(s); got != goodName(s) {
				t.Errorf("Name(%q): %v", s, got)
			}
			hold(t, encoded(item(1, s)))
			hold(t, encoded(item(4, s)))
		}
	}
}

// P8.1: what the chapter says of Before, in single rows.
func TestBefore(t *testing.T) {
	for _, r := range []struct {
		a, b api.Item
		want bool
	}{
		{item(1, "a"), item(1, "b"), true}, {item(1, "b"), item(1, "a"), false}, {item(1, "a"), item(1, "a"), false},
		{item(1, "a"), item(2, "a"), false}, {item(3, "a"), item(1, "a"), false}, {item(4, "a"), item(4, "a"), false},
		{item(1, "a"), item(4, "a"), true}, {item(4, "a"), item(1, "a"), false},
		{item(4, "a"), item(1, "a.b"), false}, {item(1, "a.b"), item(4, "a"), true},
		{item(4, "a"), item(1, "a-b"), false}, {item(1, "a-b"), item(4, "a"), true},
		{item(4, "a"), item(1, "a0"), true}, {item(1, "a0"), item(4, "a"), false},
		{item(4, "a"), item(1, "ab"), true}, {item(1, "ab"), item(4, "a"), false},
		{item(4, "a"), item(4, "a.b"), false}, {item(4, "a.b"), item(4, "a"), true},
		{item(4, "a"), item(4, "a0"), true}, {item(4, "a0"), item(4, "a"), false},
		{item(1, "a"), item(4, "a.b"), true}, {item(2, "a"), item(3, "a-b"), true},
		{item(1, "a"), item(1, "B"), false}, {item(1, "z"), item(1, "é"), true},
		{item(4, "a"), item(1, "a/"), false}, {item(1, "a/"), item(4, "a"), false}, {item(4, "a"), item(4, "a/"), true}, {item(4, "a"), item(1, "a/b"), true},
		{item(1, ""), item(4, ""), true}, {item(4, ""), item(1, ""), false}, {item(1, ""), item(1, ""), false}, {item(4, ""), item(1, "."), false}, {item(4, ""), item(1, "0"), true},
		{item(1, "\x7f"), item(1, "\x80"), true}, {item(1, "\xff"), item(1, "\xf0"), false}, {item(1, "\xff"), item(1, "\uffff"), false}, {item(1, "\ue000"), item(1, "\U00010000"), true},
		{item(1, "a"), item(1, "a\x00"), true}, {item(4, "a"), item(1, "a\x00"), false},
		{api.Item{}, api.Item{}, false}, {api.Item{Name: "a"}, api.Item{Name: "b"}, true}, {item(5, "a"), item(0, "a."), true},
	} {
		if got := tree.Before(r.a, r.b); got != r.want {
			t.Errorf("Before(%d %q, %d %q): %v", r.a.Mode, r.a.Name, r.b.Mode, r.b.Name, got)
		}
	}
	if long := strings.Repeat("a", 1<<20); tree.Before(item(4, long), item(1, long+".")) || !tree.Before(item(1, long), item(4, long)) {
		t.Error("Before of long names")
	}
}

// P8.1: each two of many items, of each mode and of others; neither ids nor
// modes beside that of a tree count.
func TestBeforeOfEachTwo(t *testing.T) {
	var all []api.Item
	for _, name := range slices.Concat(near, goodNames, badNames) {
		for _, mode := range []int{-1, 0, 1, 2, 3, 4, 5, 1<<32 + 4} {
			all = append(all, item(mode, name))
		}
	}
	for _, a := range all {
		for _, b := range all {
			if got := tree.Before(a, b); got != ahead(a, b) {
				t.Fatalf("Before(%d %.20q, %d %.20q): %v", a.Mode, a.Name, b.Mode, b.Name, got)
			}
		}
	}
	x, y := item(1, "a"), item(1, "a")
	x.Id, y.Id = idOf(1), idOf(2)
	if tree.Before(x, y) || tree.Before(y, x) {
		t.Error("Before of two items of one name hangs on their ids")
	}
}

// P8.1: all lists of up to three items of names that begin alike, of files and trees.
func TestListsOfNamesAlike(t *testing.T) {
	var all []api.Item
	for _, name := range near {
		all = append(all, item(1, name), item(4, name))
	}
	var walk func(l []api.Item, left int)
	walk = func(l []api.Item, left int) {
		if len(l) > 0 {
			want := api.ErrOrder
			if valid(l) {
				want = api.OK
			} else {
				refused(t, encoded(l...), api.ErrForm)
			}
			printed(t, l, want)
		}
		for _, x := range all {
			if left > 0 {
				walk(append(slices.Clone(l), x), left-1)
			}
		}
	}
	walk(nil, 3)
}

// P8.1: two items of one name: of one mode, and of two with others between them.
func TestSameNames(t *testing.T) {
	for mode := 1; mode <= 4; mode++ {
		for other := 1; other <= 4; other++ {
			for _, between := range [][]api.Item{nil, {item(1, "a.b")}, {item(1, "a-b"), item(2, "a."), item(4, "a.b")}} {
				l := slices.Concat([]api.Item{item(mode, "a")}, between, []api.Item{item(other, "a")})
				printed(t, l, api.ErrOrder)
				refused(t, encoded(l...), api.ErrForm)
				last := len(l) - 1
				l[last].Name = "ab"
				printed(t, l[:1], api.OK)
				printed(t, l[1:], api.OK)
			}
		}
	}
	far := slices.Concat([]api.Item{item(1, "a")}, make([]api.Item, 400), []api.Item{item(4, "a")})
	for i, x := range files(400, 10) {
		x.Name = "a-" + x.Name
		far[1+i] = x
	}
	printed(t, far, api.ErrOrder)
	refused(t, encoded(far...), api.ErrForm)
	printed(t, far[1:], api.OK)
	printed(t, far[:401], api.OK)
}

// P8.1: a tree of each number of items around the limit, and of far more.
func TestNumberOfItems(t *testing.T) {
	for _, n := range []int{1, 2, 3, 26, 27, api.MaxFiles - 1, api.MaxFiles} {
		printed(t, files(n, 3), api.OK)
	}
	for _, n := range []int{api.MaxFiles + 1, api.MaxFiles + 2, 2 * api.MaxFiles, 2000} {
		printed(t, files(n, 3), api.ErrOrder)
		refused(t, encoded(files(n, 3)...), api.ErrForm)
	}
	printed(t, make([]api.Item, 1<<18), api.ErrOrder)
}

// P8.1: a tree that is not in order is found wherever that is.
func TestOrderAtEachPlace(t *testing.T) {
	for _, n := range []int{2, 5, api.MaxFiles} {
		for i := range n - 1 {
			l := files(n, 3)
			l[i], l[i+1] = l[i+1], l[i]
			printed(t, l, api.ErrOrder)
			l[i] = l[i+1]
			printed(t, l, api.ErrOrder)
		}
	}
}

// P8.1: many names with odd bytes in the order that Before tells are a tree.
func TestSortedNames(t *testing.T) {
	var l []api.Item
	for i, name := range slices.Concat(near, goodNames[1:]) {
		l = append(l, item(1+i%4, name))
	}
	slices.SortFunc(l, func(a, b api.Item) int { return strings.Compare(a.Name, b.Name) })
	l = slices.CompactFunc(l, func(a, b api.Item) bool { return a.Name == b.Name })
	sort.SliceStable(l, func(i, j int) bool { return tree.Before(l[i], l[j]) })
	printed(t, l, api.OK)
	slices.Reverse(l)
	printed(t, l, api.ErrOrder)
}

// wide is a tree whose encoding has so many bytes: 153 times 428, and the rest.
func wide(size int) []api.Item {
	l := files(154, api.MaxPath)
	last := &l[len(l)-1]
	last.Name = last.Name[:size-153*(7+api.MaxPath+1+20)-(7+1+20)]
	return l
}

// P8.1: encodings of nearly MaxBody bytes, of as many, and of more.
func TestSizeOfEncoding(t *testing.T) {
	for size := api.MaxBody - 5; size <= api.MaxBody+5; size++ {
		l := wide(size)
		b := encoded(l...)
		if len(b) != size || !valid(l) {
			t.Fatalf("the tree of %d bytes has %d", size, len(b))
		}
		if size <= api.MaxBody {
			printed(t, l, api.OK)
			hold(t, b)
		} else {
			printed(t, l, api.ErrLimit)
			refused(t, b, api.ErrLimit)
		}
	}
	printed(t, files(api.MaxFiles, api.MaxPath), api.ErrLimit)
	refused(t, encoded(files(api.MaxFiles, api.MaxPath)...), api.ErrLimit)
}

// P8.1, R5: a list that is no tree and too long as well is no tree first; and
// bytes that are too many are so ahead of what else they are.
func TestFirstError(t *testing.T) {
	for i := range 6 {
		l := wide(api.MaxBody + 7) // too long without the word of a mode, too
		switch last := len(l) - 1; i {
		case 0:
			l[0], l[1] = l[1], l[0]
		case 1:
			l[last].Id = api.Id{}
		case 2:
			l[last].Mode = 5
		case 3:
			l[last].Name += "/"
		case 4:
			l[last] = l[last-1]
		case 5:
			l = files(api.MaxFiles+1, api.MaxPath)
		}
		printed(t, l, api.ErrOrder)
		refused(t, encoded(l...), api.ErrLimit)
	}
	for _, n := range []int{api.MaxBody + 1, api.MaxBody + 2, 2 * api.MaxBody, 1 << 22} {
		refused(t, make([]byte, n), api.ErrLimit)
		refused(t, bytes.Repeat([]byte("1"), n), api.ErrLimit)
		refused(t, append(encoded(item(1, "a")), make([]byte, n)...), api.ErrLimit)
	}
	for _, s := range []string{"\x00", "1", " ", "100644 ", "100644 a\x00"} {
		refused(t, []byte(strings.Repeat(s, api.MaxBody)[:api.MaxBody]), api.ErrForm)
	}
}

// P8.1: bytes that are nearly what Print makes.
func TestParseRefuses(t *testing.T) {
	x := item(1, "a")
	id, one := string(x.Id[:]), string(encoded(x))
	for _, s := range []string{
		"\x00", " ", "a", id, "100644", "100644 ", "100644 a", "100644 a\x00", "100644\x00", "100644 \x00", "100644a\x00" + id, "100644\x00" + id, "100644 a" + id, "100644 " + id, " a\x00" + id, "a\x00" + id, "\x00" + id, "100644 a\n" + id, "100644\ta\x00" + id, "100644\na\x00" + id,
		"100644 \x00" + id, "100644 \x00a\x00" + id, "40000 \x00" + id, " 100644 a\x00" + id, "\x00100644 a\x00" + id, "\n" + one, one + "\n", one + "\x00", one + " ", one + "1", one[:len(one)-1], one[1:], one + one, one + one[:len(one)-1], one + "100644 b",
		"100644 .\x00" + id, "100644 ..\x00" + id, "100644 .git\x00" + id, "100644 .GIT\x00" + id, "100644 a/b\x00" + id, "40000 a/\x00" + id, "40000 /\x00" + id, "100644 \xff\x00" + id, "100644 a\xc3\x00" + id,
	} {
		refused(t, []byte(s), api.ErrForm)
	}
	for _, mode := range []string{"", "0", "1", "4", "100", "10064", "1006", "1006440", "0100644", "00100644", "100645", "100643", "100664", "100600", "100744", "100754", "10075", "1007550", "0100755", "100756", "12000", "120001", "1200000", "0120000", "120755", "040000", "4000", "400000", "40001", "40755", "140000", "160000", "0", "+100644", "-100644", "100644.", "1e5", "0x1", "100 644", "１00644", "644", "00644", "file", "tree"} {
		refused(t, []byte(mode+" a\x00"+id), api.ErrForm)
		refused(t, []byte(one+mode+" b\x00"+id), api.ErrForm)
	}
	for i := range len(one) {
		for j := range len(one) {
			hold(t, []byte(one[:i]+one[j:]))
		}
	}
}

// P8.1: a second space is the first byte of a name, and so is all up to the byte 0.
func TestParseTakesOddNames(t *testing.T) {
	for _, name := range []string{" a", "  ", " ", "a 100644 b", "\n", "100644 a", "a\x01", "\x7f", "é"} {
		l := []api.Item{item(1, name)}
		if got, err := tree.Parse(encoded(l...)); err != api.OK || !slices.Equal(got, l) {
			t.Errorf("Parse of the name %q: %s, error %d", name, told(got), err)
		}
	}
}

// P8.1: each prefix and each end of an encoding, and each byte left out, put
// in twice and turned into each other one.
func TestNearlyPrinted(t *testing.T) {
	trees := [][]api.Item{
		{item(1, "a")}, {item(4, "d")},
		{item(2, "a"), item(4, "b")}, {item(1, "a.b"), item(4, "a"), item(3, "é")},
		{{Mode: 1, Name: " 1", Id: api.Id([]byte("100644 b\x00100755 c\x0040"))}},
	}
	for _, l := range trees {
		s := string(encoded(l...))
		printed(t, l, api.OK)
		for i := range len(s) {
			hold(t, []byte(s[:i]))
			hold(t, []byte(s[i:]))
			hold(t, []byte(s[:i]+s[i+1:]))
			hold(t, []byte(s[:i]+s[i:i+1]+s[i:]))
			for c := range 256 {
				b := string([]byte{byte(c)})
				hold(t, []byte(s[:i]+b+s[i+1:]))
				hold(t, []byte(s[:i]+b+s[i:]))
			}
		}
	}
}

// P8.1: all rows of a few pieces of encodings.
func TestRowsOfPieces(t *testing.T) {
	id := strings.Repeat("i", 20)
	pieces := []string{"100644", "40000", " ", "a", "\x00", "\x00" + id, id, "100755 b\x00" + id, "40000 a\x00" + id, "120000 a.b\x00" + id, "é"}
	var walk func(s string, left int)
	walk = func(s string, left int) {
		hold(t, []byte(s))
		for _, p := range pieces {
			if left > 0 {
				walk(s+p, left-1)
			}
		}
	}
	walk("", 5)
}

// R3: what is handed in stays as it was, beyond its length too.
func TestArgumentsStay(t *testing.T) {
	l := append(files(20, 5), item(4, "b"), item(1, "a"), api.Item{})
	before := slices.Clone(l)
	b := append(encoded(files(20, 5)...), "more of it, and more still"...)
	bytesBefore := bytes.Clone(b)
	for i := range len(l) {
		tree.Right(l[:i])
		tree.Print(l[:i])
	}
	for i := range len(b) {
		tree.Parse(b[:i])
	}
	if !slices.Equal(l, before) || !bytes.Equal(b, bytesBefore) {
		t.Error("what was handed in is not what it was")
	}
}

// R3: an answer is new memory and hangs on no argument.
func TestAnswersAreNew(t *testing.T) {
	l := files(20, 5)
	want := encoded(l...)
	first, _ := tree.Print(l)
	second, _ := tree.Print(l)
	clear(first[:cap(first)])
	clear(l)
	if !bytes.Equal(second, want) {
		t.Error("what Print answers is not its own")
	}
	one, _ := tree.Parse(second)
	two, _ := tree.Parse(second)
	clear(one[:cap(one)])
	clear(second)
	if !slices.Equal(two, files(20, 5)) {
		t.Error("what Parse answers is not its own")
	}
}

// R2: what lies beyond what is handed in does not count.
func TestBeyondTheLength(t *testing.T) {
	b := encoded(item(1, "a"), item(1, "b"))
	half := len(b) / 2
	for i := range len(b) {
		if i != 0 && i != half {
			refused(t, b[:i], api.ErrForm)
		}
	}
	if l, err := tree.Parse(b[:half]); err != api.OK || !slices.Equal(l, []api.Item{item(1, "a")}) {
		t.Errorf("Parse of a piece: %s, error %d", told(l), err)
	}
	printed(t, []api.Item{item(1, "a"), item(1, "a")}[:1], api.OK)
}

// R2: calls at the same time answer what they answer one by one.
func TestAtTheSameTime(t *testing.T) {
	var group sync.WaitGroup
	l := files(api.MaxFiles, 20)
	for n := range 8 {
		group.Go(func() {
			for k := range 20 {
				printed(t, l[n+k:300+n*k], api.OK)
			}
		})
	}
	group.Wait()
}
