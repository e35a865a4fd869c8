package flat_test

import (
	"bytes"
	"crypto/sha1"
	"encoding/hex"
	"fmt"
	"math"
	"slices"
	"strings"
	"testing"
	"unicode/utf8"

	"trestle/api"
	"trestle/flat"
	"trestle/object"
	"trestle/objects"
)

const emptyText = "4b825dc642cb6eb9a060e54bf8d69288fbee4904" // the tree without items

// badModes are modes that no file has, and such as wrap round to those there
// are in fewer bits.
var badModes = []int{math.MinInt, math.MinInt + 1, -1 << 32, -256, -2, -1, 0, api.ModeTree, 5, 6, 255, 256, 257, 258, 259, 65537, 1<<32 + 1, 1<<32 + 3, math.MaxInt - 1, math.MaxInt, 0100644, 100644}

// badPaths are paths that no file has.
var badPaths = []string{
	"", ".", "..", "/", "//", "/a", "a/", "a//b", "a/./b", "a/../b", "./a", "../a", "a/.", "a/..", ".git", ".GIT", ".giT/a", "a/.git", "a/.Git/b", "\x00", "a\x00", "\x00a", "a/b\x00/c",
	"\xff", "a\xff", "\xc3", "\xc3/a", "a/\xc3", "\xa9", "\xed\xa0\x80", "\xc0\x80", "\xc0\xaf", "a\xc0\xafb", "\xf4\x90\x80\x80", "\xe0\x80\xaf",
	long(api.MaxPath + 1), strings.Repeat("é", api.MaxPath/2) + "a", deep(api.MaxDepth+1, "a"), deep(api.MaxDepth, "a") + "/", strings.Repeat("a", 1<<16), deep(1000, "a"),
}

// goodPaths are paths that a file may have, odd ones among them.
var goodPaths = []string{
	"a", "a/b", "README.md", "a b", " ", " /a", "a/ ", "...", ".../...", ".a", "a.", "git", ".gitx", ".git /a", "a/.gi", "\n", "a\nb", "\t", "\x01", "\x7f", "\\", "a\\b", "\"", "~", ":", "-",
	"é", "é/日本", "\u0080", "\u07ff", "\u0800", "\uffff", "\U00010000", "\U0010ffff", "\ufffd", "\u2215", "\uff0f/a", "a/\u2044",
	long(api.MaxPath), strings.Repeat("é", api.MaxPath/2), deep(api.MaxDepth, "a"), deep(api.MaxDepth, "é"), deep(api.MaxDepth, strings.Repeat("a", 24)) + "a",
}

// near are paths that begin alike: the order of whole paths, of names and of
// names of directories are all others.
var near = []string{"a", "a!", "a-/b", "a.b", "a.b/c", "a/b", "a/b.c", "a/b/c", "a0", "a0/b", "ab", "b"}

// long is a path of n bytes.
func long(n int) string { return strings.Repeat("a", n) }

// deep is a path of n names.
func deep(n int, name string) string {
	return strings.TrimSuffix(strings.Repeat(name+"/", n), "/")
}

// idOf makes another id of each number.
func idOf(n int) api.Id {
	id := api.Id{19: byte(n)}
	id[n%19] = byte(n>>8) + 1
	return id
}

func file(path string) api.File { return api.File{Path: path, Mode: api.ModeFile, Id: api.Id{7}} }

// list makes files of some paths, each of another mode and id than the one
// ahead of it.
func list(paths ...string) []api.File {
	var l []api.File
	for i, path := range paths {
		l = append(l, api.File{Path: path, Mode: api.ModeFile + i%3, Id: idOf(i + len(path))})
	}
	return l
}

// numbered makes n files in order, of paths of as many bytes as told, below a
// directory.
func numbered(n, size int, dir string) []api.File {
	var l []api.File
	for i := range n {
		head := fmt.Sprintf("%s%04d", dir, i)
		l = append(l, api.File{Path: head + strings.Repeat("x", max(0, size-len(head))), Mode: api.ModeFile + i%3, Id: idOf(i)})
	}
	return l
}

// told tells the first files of a list for a message.
func told(l []api.File) string {
	s := fmt.Sprint(len(l), " files")
	for _, f := range l[:min(4, len(l))] {
		s += fmt.Sprintf(", %d %.30q %x", f.Mode, f.Path, f.Id[:3])
	}
	return s
}

// goodPath is what chapter 3 says of a path.
func goodPath(s string) bool {
	names := strings.Split(s, "/")
	for _, name := range names {
		if name == "" || name == "." || name == ".." || strings.ToLower(name) == ".git" {
			return false
		}
	}
	return len(s) <= 400 && len(names) <= 16 && utf8.ValidString(s) && strings.IndexByte(s, 0) < 0
}

// valid is what the chapter says of Right: each two files are looked at.
func valid(l []api.File) bool {
	for i, f := range l {
		if !goodPath(f.Path) || f.Mode < 1 || f.Mode > 3 || f.Id == (api.Id{}) {
			return false
		}
		for j, g := range l {
			if j < i && g.Path >= f.Path || strings.HasPrefix(f.Path, g.Path+"/") {
				return false
			}
		}
	}
	return len(l) <= 500
}

// lists are all lists of up to n files of some paths.
func lists(n int, paths []string) [][]api.File {
	all, last := [][]string{nil}, [][]string{nil}
	for range n {
		var next [][]string
		for _, l := range last {
			for _, path := range paths {
				next = append(next, append(slices.Clone(l), path))
			}
		}
		all, last = append(all, next...), next
	}
	var out [][]api.File
	for _, l := range all {
		out = append(out, list(l...))
	}
	return out
}

// store makes one with some objects.
func store(t *testing.T, l ...api.Object) *objects.Store {
	t.Helper()
	s := objects.New()
	for _, o := range l {
		put(t, s, o)
	}
	return s
}

// put puts an object into a store.
func put(t *testing.T, s *objects.Store, o api.Object) api.Id {
	t.Helper()
	id, err := s.Put(o)
	if err != api.OK {
		t.Fatalf("Put of the kind %d with %d bytes: error %d", o.Kind, len(o.Body), err)
	}
	return id
}

// sumOf is what the chapters say of the id of a tree.
func sumOf(body []byte) api.Id {
	return sha1.Sum(append(fmt.Appendf(nil, "tree %d\x00", len(body)), body...))
}

// content is what a store has.
func content(s *objects.Store) map[api.Id]string {
	m := map[api.Id]string{}
	for _, id := range s.Ids() {
		o, _ := s.Get(id)
		m[id] = object.Word(o.Kind) + " " + string(o.Body)
	}
	return m
}

// known reads a known id.
func known(t *testing.T, s string) api.Id {
	t.Helper()
	b, err := hex.DecodeString(s)
	if err != nil || len(b) != 20 {
		t.Fatalf("not an id: %q", s)
	}
	return api.Id(b)
}

// holdRight holds what Right answers against the chapter.
func holdRight(t *testing.T, l []api.File, want bool) {
	t.Helper()
	if valid(l) != want {
		t.Fatalf("the test's own reading of %s is not %t", told(l), want)
	}
	if got := flat.Right(l); got != want {
		t.Errorf("Right of %s: %t", told(l), got)
	}
}

// P13.1: a list has at most MaxFiles files, and may have none.
func TestRightCounts(t *testing.T) {
	holdRight(t, nil, true)
	holdRight(t, []api.File{}, true)
	for _, dir := range []string{"", "d/", "d/é/f/"} {
		for _, n := range []int{1, 2, 3, 255, 256, 257, api.MaxFiles - 1, api.MaxFiles} {
			holdRight(t, numbered(n, 0, dir), true)
		}
		for _, n := range []int{api.MaxFiles + 1, api.MaxFiles + 2, 2 * api.MaxFiles} {
			holdRight(t, numbered(n, 0, dir), false)
		}
	}
}

// P13.1: all paths are valid, wherever in the list they stand.
func TestRightPaths(t *testing.T) {
	for _, path := range goodPaths {
		holdRight(t, list(path), true)
		holdRight(t, flat.Sort(list(path, "!!!", "~~~~~")), true)
	}
	for _, path := range badPaths {
		holdRight(t, list(path), false)
		holdRight(t, flat.Sort(list(path, "!!!", "~~~~~")), false)
		holdRight(t, list(path, path+"z"), false)
		if path > "!" {
			holdRight(t, list("!", path), false)
		}
	}
	for c := range 256 {
		for _, form := range []string{"%s", "%sa", "a%s", "a%sb", "é%s", "%s/a", "a/%s", "a/%s/b", "é/%sé"} {
			path := fmt.Sprintf(form, string([]byte{byte(c)}))
			holdRight(t, list(path), goodPath(path))
			path = fmt.Sprintf(form, string(rune(c)))
			holdRight(t, list(path), goodPath(path))
		}
	}
}

// P13.1: a path has at most MaxPath bytes and at most MaxDepth names.
func TestRightLimits(t *testing.T) {
	for n := 1; n <= api.MaxPath+3; n++ {
		holdRight(t, list(long(n)), n <= 400)
		holdRight(t, list("A", long(n)), n <= 400)
		if n > 2 {
			holdRight(t, list("a/"+long(n-2)), n <= 400)
			holdRight(t, list("é"+long(n-2)), n <= 400)
		}
	}
	for n := 1; n <= api.MaxDepth+3; n++ {
		for _, name := range []string{"a", "é", "日本", strings.Repeat("a", 20)} {
			holdRight(t, list(deep(n, name)), n <= 16)
			holdRight(t, list("A", deep(n, name)), n <= 16)
		}
	}
}

// P13.1: paths rise byte by byte; equal ones do not.
func TestRightOrder(t *testing.T) {
	rising := []string{"\x01", " ", "A", "a", "a\x01", "a ", "a-/b", "a.b", "a/b", "a0", "aa", "b", "\u0080", "é", "é/a", "日", "\uffff", "\U00010000", "\U0010ffff"}
	for i, x := range rising {
		for j, y := range rising {
			holdRight(t, list(x, y), i < j && !strings.HasPrefix(y, x+"/"))
		}
	}
	same := file("a/b")
	holdRight(t, []api.File{same, same}, false)
	holdRight(t, []api.File{same, {Path: "a/b", Mode: api.ModeLink, Id: idOf(9)}}, false)
	l := numbered(api.MaxFiles, 0, "d/")
	for i := 0; i < len(l)-1; i += 83 {
		turned := slices.Clone(l)
		turned[i], turned[i+1] = turned[i+1], turned[i]
		holdRight(t, turned, false)
		turned[i] = turned[i+1]
		holdRight(t, turned, false)
	}
}

// P13.1: no path is a directory of another one, right behind it or not.
func TestRightDirectories(t *testing.T) {
	for _, r := range []struct {
		paths []string
		want  bool
	}{
		{[]string{"a", "a/b"}, false}, {[]string{"a", "a/b/c"}, false}, {[]string{"a/b", "a/b/c"}, false}, {[]string{"a/b", "a/b/c/d/e"}, false}, {[]string{"a", "a/b", "a/c"}, false},
		{[]string{"a", "a!", "a-", "a.", "a/b"}, false}, {[]string{"a", "a-/b", "a.b/c", "a/b"}, false}, {[]string{"a/b", "a/b!/c", "a/b.c", "a/b/c"}, false}, {[]string{"a", "a b", "a/b", "b", "c"}, false},
		{[]string{"é", "é/b"}, false}, {[]string{"日本", "日本.", "日本/日"}, false}, {[]string{"b", "é", "é.", "é/a/b"}, false}, {[]string{deep(15, "a"), deep(16, "a")}, false}, {[]string{"a", deep(16, "a")}, false},
		{[]string{"a", "ab/c"}, true}, {[]string{"a", "a.b", "a0/b"}, true}, {[]string{"a-", "a/b"}, true}, {[]string{"a!", "a/b", "a0"}, true}, {[]string{"a/b", "a/c"}, true}, {[]string{"a/b", "a/b.c/d", "a/b0/c"}, true},
		{[]string{"b", "c/b", "d/b/b"}, true}, {[]string{"a/b/c", "a/c", "b"}, true}, {[]string{"a/a", "aa/a"}, true}, {[]string{"e\u0301/a", "é/a"}, true}, {[]string{"é", "éa/b"}, true}, {[]string{deep(16, "a"), deep(15, "a") + "b"}, true},
	} {
		holdRight(t, list(r.paths...), r.want)
	}
	// As many others as may be between them.
	for _, dir := range []string{"d", "d/e", "é"} {
		l := append(list(dir), numbered(api.MaxFiles-2, 0, dir+".")...)
		holdRight(t, append(l, file(dir+"/x")), false)
		holdRight(t, append(l, file(dir+"0/x")), true)
	}
}

// P13.1: the mode of each file is one of three, and no id is zero.
func TestRightModes(t *testing.T) {
	paths := []string{"a", "b", "b.c/d", "b0/c", "c"}
	for place := range paths {
		for _, mode := range append(slices.Clone(badModes), 1, 2, 3) {
			l := list(paths...)
			l[place].Mode = mode
			holdRight(t, l, mode >= 1 && mode <= 3)
		}
		for n := range 20 {
			l := list(paths...)
			l[place].Id = api.Id{}
			l[place].Id[n] = 1
			holdRight(t, l, true)
		}
		l := list(paths...)
		l[place].Id = api.Id{}
		holdRight(t, l, false)
		holdRight(t, l[place:place+1], false)
	}
}

// P13.1: all lists of up to four files of paths that begin alike.
func TestRightLists(t *testing.T) {
	n := 0
	for _, l := range lists(4, near) {
		want := valid(l)
		if got := flat.Right(l); got != want {
			t.Errorf("Right of %s: %t", told(l), got)
		}
		if want {
			n++
		}
	}
	if n < 200 {
		t.Errorf("%d lists are valid: the test is none", n)
	}
}

// P13.1: Empty is the id of the tree without items.
func TestEmpty(t *testing.T) {
	for range 3 {
		if id := flat.Empty(); id != known(t, emptyText) || id != object.Id(api.Object{Kind: api.Tree}) {
			t.Errorf("Empty: %x", id)
		}
	}
}

// sorted is what the chapter says of Sort: one file after another is put behind
// those that are not greater.
func sorted(l []api.File) []api.File {
	var out []api.File
	for _, f := range l {
		i := len(out)
		for i > 0 && bytes.Compare([]byte(out[i-1].Path), []byte(f.Path)) > 0 {
			i--
		}
		out = slices.Insert(out, i, f)
	}
	return out
}

// P13.1: Sort tells the files in order; those of one path keep theirs.
func TestSort(t *testing.T) {
	odd := []string{"", "\x00", "/", "a", "a.", "a/", "a/b", "a0", "\x7f", "\x80", "é", "\xff", "日", "\uffff", "\U00010000"}
	all := [][]api.File{nil, {}, numbered(api.MaxFiles, 0, ""), list(badPaths...), list(goodPaths...), list(slices.Concat(odd, odd, odd)...)}
	all = append(all, lists(3, odd)...)
	all = append(all, lists(6, []string{"a", "b", "a/b"})...)
	for _, n := range []int{2, 3, 12, 13, 20, 100, 501, 3000} {
		var l, back []api.File
		for i := range n {
			l = append(l, api.File{Path: string(rune('a' + i*7%5)), Mode: i - 10, Id: idOf(i)})
		}
		back = slices.Clone(l)
		slices.Reverse(back)
		all = append(all, l, back)
	}
	for _, l := range all {
		before := slices.Clone(l)
		got := flat.Sort(l)
		if !slices.Equal(got, sorted(l)) {
			t.Errorf("Sort of %s: %s", told(l), told(got))
		}
		if !slices.Equal(l, before) {
			t.Errorf("Sort of %s turned what was handed in", told(before))
		}
		if again := flat.Sort(got); !slices.Equal(again, got) {
			t.Errorf("Sort of what Sort tells: %s; want %s", told(again), told(got))
		}
	}
	l := []api.File{{Path: "b", Mode: 1}, {Path: "a", Mode: -7}, {Path: "b", Mode: 3, Id: api.Id{1}}, {Path: "b", Mode: 2}, {Path: "a"}}
	if got := flat.Sort(l); !slices.Equal(got, []api.File{l[1], l[4], l[0], l[2], l[3]}) {
		t.Errorf("Sort: %v", got)
	}
}

// R3: what Sort and Right are given stays as it is, and so does what lies
// behind it; what Sort tells is new memory.
func TestHandedIn(t *testing.T) {
	for _, paths := range [][]string{{"b", "a", "c", "a"}, {"a", "b", "c", "d"}, {"a"}, {"d", "c"}} {
		room := append(list(paths...), list("y", "x", "z")...)
		before := slices.Clone(room)
		l := room[:len(paths)]
		got := flat.Sort(l)
		flat.Right(l)
		if !slices.Equal(room, before) {
			t.Errorf("what was handed in is %v; want %v", room, before)
		}
		want, kept := slices.Clone(got), flat.Sort(l)
		for i := range got[:cap(got)] {
			got[:cap(got)][i] = api.File{Path: "turned"}
		}
		if !slices.Equal(room, before) || !slices.Equal(flat.Sort(l), want) {
			t.Errorf("writing to what Sort told turned %v", room)
		}
		for i := range room {
			room[i] = api.File{Path: "other"}
		}
		if !slices.Equal(kept, want) {
			t.Errorf("what Sort told hangs on what was handed in: %v", kept)
		}
	}
}
