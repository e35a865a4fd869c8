package manifest_test

import (
	"bytes"
	"encoding/hex"
	"fmt"
	"math"
	"regexp"
	"slices"
	"strings"
	"testing"
	"unicode/utf8"

	"trestle/api"
	"trestle/manifest"
)

// Ids of blobs that are known: one without bytes, and one of "hello\n".
const (
	none  = "e69de29bb2d1d6434b8b29ae775ad8c2e48c5391"
	hello = "ce013625030ba8dba906f756967f9e9ca394464a"
)

// badModes are modes that no file has, and such as wrap round to those there
// are in fewer bits.
var badModes = []int{math.MinInt, math.MinInt + 1, -1 << 32, -256, -2, -1, 0, api.ModeTree, 5, 6, 255, 256, 257, 258, 259, 65537, 1<<32 + 1, 1<<32 + 3, math.MaxInt - 1, math.MaxInt, 0100644, 100644, 'x', 'l'}

// badPaths are paths that no file has, and that a line may hold.
var badPaths = []string{
	"", ".", "..", "/", "//", "/a", "a/", "a//b", "a/./b", "a/../b", "./a", "../a", "a/.", "a/..", ".git", ".GIT", ".giT/a", "a/.git", "a/.Git/b",
	"\xff", "a\xff", "\xc3", "\xc3/a", "a/\xc3", "\xa9", "\xed\xa0\x80", "\xc0\x80", "\xc0\xaf", "a\xc0\xafb", "\xf4\x90\x80\x80", "\xe0\x80\xaf",
	strings.Repeat("a", api.MaxPath+1), strings.Repeat("é", api.MaxPath/2) + "a", deep(api.MaxDepth+1, "a"), deep(api.MaxDepth, "a") + "/", strings.Repeat("a", 60000), deep(1000, "a"),
}

// zeroPaths are paths that no file has, as they hold a byte 0.
var zeroPaths = []string{"\x00", "a\x00", "\x00a", "a/b\x00/c", "a\x00b"}

// brokenPaths hold a byte 0x0a, and nothing else that is wrong.
var brokenPaths = []string{"\n", "\n\n", "\na", "a\nb", "a\n", "a/\n", "\n/a", "a/b\nc/d", "a/b/\n", "a\n/b", "é\n", "\né", "a\r\n", strings.Repeat("a", api.MaxPath-1) + "\n", "\n" + deep(api.MaxDepth, "a")}

// goodPaths are paths that a file may have, odd ones among them.
var goodPaths = []string{
	"a", "a/b", "README.md", "a b", " ", " /a", "a ", "a/ ", "...", ".../...", ".a", "a.", "git", ".gitx", ".git /a", "a/.gi", "\r", "a\r", "\ra", "\t", "\v", "\f", "\x01", "\x1f", "\x7f", "\\", "\\n", "a\\nb", "\"", "\"a\"", "~", ":", "-", "x", "l", "ax", none, "a" + none, none + "x",
	"é", "é/日本", "\u0080", "\u0085", "\u2028", "\u07ff", "\u0800", "\u010a", "\u0a0a", "\uffff", "\U00010000", "\U0010ffff", "\ufffd", "\u2215", "\uff0f/a", "a/\u2044",
	strings.Repeat("a", api.MaxPath), strings.Repeat("é", api.MaxPath/2), deep(api.MaxDepth, "a"), deep(api.MaxDepth, "é"),
}

// near are paths that begin alike.
var near = []string{"a", "a!", "a-/b", "a.b", "a.b/c", "a/b", "a/b.c", "a/b/c", "a0/b", "ab", "a\nb", "b"}

// deep is a path of n names.
func deep(n int, name string) string {
	return strings.TrimSuffix(strings.Repeat(name+"/", n), "/")
}

// idOf makes another id of each number.
func idOf(n int) api.Id {
	id := api.Id{19: byte(n)}
	id[n%19] = byte(n>>8) + 1
	return id
}

// list makes files of some paths, each of another mode and id than the one
// ahead of it.
func list(paths ...string) []api.File {
	var l []api.File
	for i, path := range paths {
		l = append(l, api.File{Path: path, Mode: api.ModeFile + i%3, Id: idOf(i + len(path))})
	}
	return l
}

// numbered makes n files in order, of paths of as many bytes as told at least.
func numbered(n, size int) []api.File {
	var paths []string
	for i := range n {
		paths = append(paths, fmt.Sprintf("%04d", i)+strings.Repeat("x", max(0, size-4)))
	}
	return list(paths...)
}

// sized makes n files in order, whose encoding has as many bytes as told.
func sized(t *testing.T, n, total int) []api.File {
	t.Helper()
	l := numbered(n, 4)
	left := total - len(encoded(l))
	for i := range l {
		more := min(left, api.MaxPath-4)
		l[i].Path += strings.Repeat("x", max(0, more))
		left -= more
	}
	if left != 0 || len(encoded(l)) != total {
		t.Fatalf("%d files have no encoding of %d bytes", n, total)
	}
	return l
}

// told tells the first files of a list for a message.
func told(l []api.File) string {
	s := fmt.Sprint(len(l), " files")
	for _, f := range l[:min(4, len(l))] {
		s += fmt.Sprintf(", %d %.30q %x", f.Mode, f.Path, f.Id[:3])
	}
	return s
}

// encoded is what the chapter says of an encoding, be the list right or not.
func encoded(l []api.File) []byte {
	var b bytes.Buffer
	for _, f := range l {
		fmt.Fprintf(&b, "%s\x00%x%s\n", f.Path, f.Id, map[int]string{2: "x", 3: "l"}[f.Mode])
	}
	return b.Bytes()
}

// goodPath is what chapter 3 says of a path.
func goodPath(s string) bool {
	names := strings.Split(s, "/")
	for _, name := range names {
		if name == "" || name == "." || name == ".." || strings.ToLower(name) == ".git" {
			return false
		}
	}
	return len(s) <= 400 && len(names) <= 16 && utf8.ValidString(s) && strings.IndexByte(s, 0) < 0
}

// valid is what the chapters 13 and 16 say of a list of files: each two of them
// are looked at.
func valid(l []api.File) bool {
	if len(l) > 500 {
		return false
	}
	for i, f := range l {
		if !goodPath(f.Path) || f.Mode < 1 || f.Mode > 3 || f.Id == (api.Id{}) || strings.IndexByte(f.Path, '\n') >= 0 {
			return false
		}
		for j, g := range l {
			if j < i && g.Path >= f.Path || strings.HasPrefix(f.Path, g.Path+"/") {
				return false
			}
		}
	}
	return true
}

// printed is what the chapter says of Print.
func printed(l []api.File) ([]byte, api.Errno) {
	if !valid(l) {
		return nil, api.ErrOrder
	}
	if b := encoded(l); len(b) <= 65536 {
		return b, api.OK
	}
	return nil, api.ErrLimit
}

// modes are those that the flags stand for.
var modes = map[string]int{"": 1, "x": 2, "l": 3}

var lineForm = regexp.MustCompile("^([^\x00\n]*)\x00([0-9a-f]{40})([xl]?)\n")

// parsed is what the chapter says of Parse: what the lines look like, and that
// the files have this encoding.
func parsed(b []byte) ([]api.File, api.Errno) {
	var l []api.File
	for rest := b; len(rest) > 0; {
		m := lineForm.FindSubmatch(rest)
		if m == nil {
			return nil, api.ErrForm
		}
		id, _ := hex.DecodeString(string(m[2]))
		l = append(l, api.File{Path: string(m[1]), Mode: modes[string(m[3])], Id: api.Id(id)})
		rest = rest[len(m[0]):]
	}
	if again, err := printed(l); err != api.OK || !bytes.Equal(again, b) {
		return nil, api.ErrForm
	}
	return l, api.OK
}

// holdPrint holds what Print answers against the chapter, and what Parse makes
// of it against the list.
func holdPrint(t *testing.T, l []api.File, want api.Errno) {
	t.Helper()
	text, err := printed(l)
	if err != want {
		t.Fatalf("the test's own reading of %s is the error %d, not %d", told(l), err, want)
	}
	b, err := manifest.Print(l)
	if err != want || !bytes.Equal(b, text) {
		t.Errorf("Print of %s: %d bytes %.200q, error %d; want %.200q, error %d", told(l), len(b), b, err, text, want)
	}
	if want != api.OK {
		return
	}
	if back, err := manifest.Parse(b); err != api.OK || !slices.Equal(back, l) {
		t.Errorf("Parse of what Print told, %.200q: %s, error %d; want %s", b, told(back), err, told(l))
	}
}

// holdParse holds what Parse answers against the chapter.
func holdParse(t *testing.T, b []byte) bool {
	t.Helper()
	want, wantErr := parsed(b)
	l, err := manifest.Parse(b)
	if err != wantErr || !slices.Equal(l, want) {
		t.Errorf("Parse of %d bytes %.200q: %s, error %d; want %s, error %d", len(b), b, told(l), err, told(want), wantErr)
		return false
	}
	if err != api.OK {
		return false
	}
	if again, err := manifest.Print(l); err != api.OK || !bytes.Equal(again, b) {
		t.Errorf("Print of what Parse told: %.200q, error %d; want %.200q", again, err, b)
	}
	return true
}

// refuse expects that Parse refuses some bytes.
func refuse(t *testing.T, b []byte) {
	t.Helper()
	if holdParse(t, b) {
		t.Errorf("Parse takes %d bytes %.200q", len(b), b)
	}
}

// accept expects that Parse takes some bytes.
func accept(t *testing.T, b []byte) {
	t.Helper()
	if !holdParse(t, b) {
		t.Errorf("Parse does not take %d bytes %.200q", len(b), b)
	}
}

// P16.1: texts as the chapter tells them, written out.
func TestKnownTexts(t *testing.T) {
	id, other := api.Id{0xe6, 0x9d, 0xe2, 0x9b, 0xb2, 0xd1, 0xd6, 0x43, 0x4b, 0x8b, 0x29, 0xae, 0x77, 0x5a, 0xd8, 0xc2, 0xe4, 0x8c, 0x53, 0x91}, api.Id{0xce, 0x01, 0x36, 0x25, 0x03, 0x0b, 0xa8, 0xdb, 0xa9, 0x06, 0xf7, 0x56, 0x96, 0x7f, 0x9e, 0x9c, 0xa3, 0x94, 0x46, 0x4a}
	for _, r := range []struct {
		l    []api.File
		text string
	}{
		{nil, ""},
		{[]api.File{}, ""},
		{make([]api.File, 0, 7), ""},
		{[]api.File{{Path: "a", Mode: api.ModeFile, Id: id}}, "a\x00" + none + "\n"},
		{[]api.File{{Path: "a", Mode: api.ModeExec, Id: id}}, "a\x00" + none + "x\n"},
		{[]api.File{{Path: "a", Mode: api.ModeLink, Id: id}}, "a\x00" + none + "l\n"},
		{[]api.File{{Path: "a", Mode: api.ModeFile, Id: api.Id{19: 1}}}, "a\x000000000000000000000000000000000000000001\n"},
		{[]api.File{{Path: "é/b c", Mode: 2, Id: api.Id{0x0a, 0, 0x0a, 19: 0xff}}}, "é/b c\x000a000a00000000000000000000000000000000ffx\n"},
		{[]api.File{{Path: "a", Mode: 3, Id: other}, {Path: "a.b", Mode: 1, Id: id}, {Path: "b/c", Mode: 2, Id: id}}, "a\x00" + hello + "l\na.b\x00" + none + "\nb/c\x00" + none + "x\n"},
		{[]api.File{{Path: "x", Mode: 1, Id: id}, {Path: "xl", Mode: 1, Id: other}}, "x\x00" + none + "\nxl\x00" + hello + "\n"},
	} {
		b, err := manifest.Print(r.l)
		if err != api.OK || string(b) != r.text {
			t.Errorf("Print of %s: %q, error %d; want %q", told(r.l), b, err, r.text)
		}
		l, err := manifest.Parse([]byte(r.text))
		if err != api.OK || !slices.Equal(l, r.l) {
			t.Errorf("Parse of %q: %s, error %d; want %s", r.text, told(l), err, told(r.l))
		}
		holdPrint(t, r.l, api.OK)
		accept(t, []byte(r.text))
	}
}

// P16.1: each file that may be has a line, alone and between others.
func TestPrintOfEachFile(t *testing.T) {
	for _, path := range goodPaths {
		for mode := 1; mode <= 3; mode++ {
			f := api.File{Path: path, Mode: mode, Id: idOf(mode)}
			holdPrint(t, []api.File{f}, api.OK)
			l := list("!", "~~", path)
			l[2] = f
			slices.SortFunc(l, func(a, b api.File) int { return strings.Compare(a.Path, b.Path) })
			holdPrint(t, l, api.OK)
		}
	}
	for n := range 20 {
		for c := range 256 {
			f := api.File{Path: "a", Mode: 1 + c%3}
			f.Id[n], f.Id[(n+1)%20] = byte(c), 1
			holdPrint(t, []api.File{f}, api.OK)
		}
	}
}

// P16.1: a list has at most MaxFiles files.
func TestCounts(t *testing.T) {
	for _, n := range []int{1, 2, 3, 10, 255, 256, 257, api.MaxFiles - 1, api.MaxFiles} {
		holdPrint(t, numbered(n, 0), api.OK)
		accept(t, encoded(numbered(n, 0)))
	}
	for _, n := range []int{api.MaxFiles + 1, api.MaxFiles + 2, 2 * api.MaxFiles, 2000} {
		holdPrint(t, numbered(n, 0), api.ErrOrder)
		refuse(t, encoded(numbered(n, 0)))
	}
}

// P16.1: an encoding has at most MaxBody bytes.
func TestSizes(t *testing.T) {
	for _, n := range []int{149, 150, 200, 300, api.MaxFiles - 1, api.MaxFiles} {
		for _, total := range []int{api.MaxBody - 2, api.MaxBody - 1, api.MaxBody} {
			holdPrint(t, sized(t, n, total), api.OK)
			accept(t, encoded(sized(t, n, total)))
		}
		for _, total := range []int{api.MaxBody + 1, api.MaxBody + 2, api.MaxBody + 30} {
			holdPrint(t, sized(t, n, total), api.ErrLimit)
			refuse(t, encoded(sized(t, n, total)))
		}
	}
	// The last byte is one of a flag, of a path, or the end of a line.
	for i, mode := range []int{1, 2, 3} {
		l := sized(t, 160, api.MaxBody)
		l[0].Mode = mode
		want := api.OK
		if i > 0 {
			want = api.ErrLimit
		}
		holdPrint(t, l, want)
	}
	holdPrint(t, sized(t, api.MaxFiles, 100000), api.ErrLimit)
	refuse(t, encoded(sized(t, api.MaxFiles, 100000)))
	refuse(t, bytes.Repeat([]byte("a\x00"+none+"\n"), 1000))
	for _, c := range []string{"\n", "a", "\x00", "0", "a\n"} {
		for _, n := range []int{api.MaxBody / 2, api.MaxBody - 1, api.MaxBody, api.MaxBody + 1, 1 << 20} {
			refuse(t, []byte(strings.Repeat(c, n)))
		}
	}
}

// wrongs are lists that may not be, each for another reason, of at least as
// many files as told, and of paths of about as many bytes.
func wrongs(n, size int) [][]api.File {
	var all [][]api.File
	turn := func(f func(l []api.File)) {
		l := numbered(n, size)
		f(l)
		all = append(all, l)
	}
	for _, place := range []int{0, n / 2, n - 1} {
		for _, path := range slices.Concat(badPaths, zeroPaths, brokenPaths) {
			turn(func(l []api.File) { l[place].Path = path })
		}
		for _, end := range []string{"\n", "\nx", "/\n", "\x00", "/.git", "/", "\xff"} {
			turn(func(l []api.File) { l[place].Path = l[place].Path[:min(8, size)] + end })
		}
		for _, mode := range badModes {
			turn(func(l []api.File) { l[place].Mode = mode })
		}
		turn(func(l []api.File) { l[place].Id = api.Id{} })
	}
	for _, place := range []int{0, n - 2} {
		turn(func(l []api.File) { l[place], l[place+1] = l[place+1], l[place] })
		turn(func(l []api.File) { l[place+1] = l[place] })
		turn(func(l []api.File) { l[place+1].Path = l[place].Path })
		turn(func(l []api.File) { l[place].Path = l[place].Path[:10]; l[place+1].Path = l[place].Path + "/a" })
		turn(func(l []api.File) { l[place].Path = "0"; l[place+1].Path = "0/\n" })
	}
	turn(slices.Reverse)
	turn(func(l []api.File) { l[0].Path, l[1].Path, l[2].Path = "!", "!.a", "!/a" })
	turn(func(l []api.File) { l[0].Path, l[1].Path, l[2].Path = "!/b", "!/b.a", "!/b/a" })
	return append(all, numbered(max(n, api.MaxFiles+1), size))
}

// P16.1: a list that may not be has no encoding, however long it would be.
func TestPrintRefuses(t *testing.T) {
	for _, l := range wrongs(3, 20) {
		holdPrint(t, l, api.ErrOrder)
	}
	for _, l := range wrongs(200, 390) {
		if len(encoded(l)) <= api.MaxBody {
			t.Fatalf("%s have an encoding of %d bytes", told(l), len(encoded(l)))
		}
		holdPrint(t, l, api.ErrOrder)
	}
	holdPrint(t, numbered(200, 390), api.ErrLimit)
	holdPrint(t, make([]api.File, 1), api.ErrOrder)
	holdPrint(t, make([]api.File, 5000), api.ErrOrder)
	for _, path := range slices.Concat(badPaths, zeroPaths, brokenPaths) {
		holdPrint(t, list(path), api.ErrOrder)
	}
}

// P16.1: each place of a byte 0x0a in a path.
func TestBrokenPaths(t *testing.T) {
	for _, path := range []string{"a", "ab", "a/b", "é", "a b/c.d/e", strings.Repeat("a", api.MaxPath-1)} {
		for i := 0; i <= len(path); i++ {
			if utf8.ValidString(path[:i]) {
				holdPrint(t, list(path[:i]+"\n"+path[i:]), api.ErrOrder)
				holdPrint(t, list(path[:i]+"\r"+path[i:]), api.OK)
			}
			refuse(t, encoded(list(path[:i]+"\n"+path[i:])))
		}
	}
	// What a path says is no other file.
	l := list("a\x00" + none + "\nb")
	holdPrint(t, l, api.ErrOrder)
	accept(t, encoded(l))
}

// P16.1: all lists of up to four files of paths that begin alike.
func TestLists(t *testing.T) {
	last, right, all := [][]string{nil}, 0, 0
	for range 4 {
		var next [][]string
		for _, paths := range last {
			for _, path := range near {
				next = append(next, append(slices.Clone(paths), path))
			}
		}
		for _, paths := range next {
			l := list(paths...)
			_, want := printed(l)
			holdPrint(t, l, want)
			broken := slices.ContainsFunc(paths, func(s string) bool { return strings.Contains(s, "\n") })
			if holdParse(t, encoded(l)) != (want == api.OK) && !broken {
				t.Errorf("Print and Parse are not of one mind about %s", told(l))
			}
			if want == api.OK {
				right++
			}
			all++
		}
		last = next
	}
	if right < 200 || all < 20000 {
		t.Errorf("%d lists of %d are valid: the test is none", right, all)
	}
}
