package delta_test

import (
	"bytes"
	"fmt"
	"math"
	"slices"
	"sort"
	"strings"
	"sync"
	"testing"

	"trestle/api"
	"trestle/delta"
)

// oddNumbers are numbers that no text of a test has a place for, and such as
// wrap round to small ones in fewer bits.
var oddNumbers = []int{math.MinInt, math.MinInt + 1, -1 << 32, -1<<32 + 1, -1 << 31, -1<<31 + 1, -1 << 16, -256, -255, -2, -1, 1 << 16, 1<<31 - 1, 1 << 31, 1<<31 + 1, 1<<32 - 1, 1 << 32, 1<<32 + 1, math.MaxInt - 1, math.MaxInt}

// edit makes an edit.
func edit(from, to int, with string) api.Edit {
	return api.Edit{From: from, To: to, B: []byte(with)}
}

// same tells whether two edits are equal.
func same(x, y api.Edit) bool {
	return x.From == y.From && x.To == y.To && bytes.Equal(x.B, y.B)
}

// clone copies a list, with all that it has in it.
func clone(l []api.Edit) []api.Edit {
	out := slices.Clone(l)
	for i := range out {
		out[i].B = bytes.Clone(out[i].B)
	}
	return out
}

// told tells the first edits of a list for a message.
func told(l []api.Edit) string {
	s := fmt.Sprint(len(l), " edits")
	for _, e := range l[:min(5, len(l))] {
		s += fmt.Sprintf(", %d to %d %d bytes %.20q", e.From, e.To, len(e.B), e.B)
	}
	return s
}

// texts are all texts of up to n bytes of some letters.
func texts(n int, letters string) []string {
	all, last := []string{""}, []string{""}
	for range n {
		var next []string
		for _, s := range last {
			for i := range len(letters) {
				next = append(next, s+letters[i:i+1])
			}
		}
		all, last = append(all, next...), next
	}
	return all
}

// varied is a text of n bytes, hardly two pieces of which are the same.
func varied(n int) string {
	b := make([]byte, n)
	x := uint32(1)
	for i := range b {
		x = x*1664525 + 1013904223
		b[i] = byte(x >> 24)
	}
	return string(b)
}

// made is what the chapter says of Make: the greatest lengths are searched by
// halves, as each text that begins alike does so up to any shorter length too.
func made(a, b string) []api.Edit {
	if a == b {
		return nil
	}
	most := min(len(a), len(b))
	from := sort.Search(most, func(n int) bool { return a[:n+1] != b[:n+1] })
	end := sort.Search(most-from, func(n int) bool { return a[len(a)-n-1:] != b[len(b)-n-1:] })
	return []api.Edit{edit(from, len(a)-end, b[from:len(b)-end])}
}

// holdMake holds what Make answers, and what becomes of that, against what it
// should be.
func holdMake(t *testing.T, a, b string, want []api.Edit) {
	t.Helper()
	l := delta.Make([]byte(a), []byte(b))
	if !slices.EqualFunc(l, want, same) {
		t.Fatalf("Make of %d bytes %.20q and %d bytes %.20q: %s; want %s", len(a), a, len(b), b, told(l), told(want))
	}
	wantText, wantErr := b, api.OK
	if len(b) > api.MaxBody {
		wantText, wantErr = "", api.ErrLimit
	}
	if got, err := delta.Apply([]byte(a), l); string(got) != wantText || err != wantErr {
		t.Fatalf("Apply of Make of %d bytes %.20q and %d bytes %.20q: %d bytes %.20q, error %d", len(a), a, len(b), b, len(got), got, err)
	}
	if back, err := delta.Parse(delta.Print(l)); !slices.EqualFunc(back, l, same) || err != api.OK {
		t.Fatalf("Parse of Print of Make of %d bytes %.20q and %d bytes %.20q: %s, error %d", len(a), a, len(b), b, told(back), err)
	}
}

// P14.1: Make of texts whose edit is known.
func TestMakeOfKnownTexts(t *testing.T) {
	for _, r := range []struct {
		a, b     string
		from, to int
		with     string
	}{
		{"abc", "axc", 1, 2, "x"}, {"abc", "xbc", 0, 1, "x"}, {"abc", "abx", 2, 3, "x"}, {"abc", "xyz", 0, 3, "xyz"}, {"a", "b", 0, 1, "b"}, {"abc", "axyzc", 1, 2, "xyz"}, {"axyzc", "abc", 1, 4, "b"}, {"abcde", "axcye", 1, 4, "xcy"},
		// No bytes on either side.
		{"", "x", 0, 0, "x"}, {"x", "", 0, 1, ""}, {"", "abc", 0, 0, "abc"}, {"abc", "", 0, 3, ""},
		// One text is the beginning or the end of the other.
		{"ab", "abc", 2, 2, "c"}, {"abc", "ab", 2, 3, ""}, {"bc", "abc", 0, 0, "a"}, {"abc", "bc", 0, 1, ""}, {"a", "abc", 1, 1, "bc"}, {"abc", "c", 0, 2, ""},
		// What is alike at the beginning and at the end overlaps in one of them.
		{"aaa", "aaaa", 3, 3, "a"}, {"aaaa", "aaa", 3, 4, ""}, {"a", "aa", 1, 1, "a"}, {"aa", "a", 1, 2, ""}, {"aa", "aaaaa", 2, 2, "aaa"}, {"abab", "ab", 2, 4, ""}, {"ab", "abab", 2, 2, "ab"}, {"aba", "ababa", 3, 3, "ba"}, {"ababa", "aba", 3, 5, ""},
		{"aXa", "aa", 1, 2, ""}, {"aa", "aXa", 1, 1, "X"}, {"aba", "abcba", 2, 2, "cb"}, {"abcba", "aba", 2, 4, ""}, {"aXXa", "aXa", 2, 3, ""}, {"aXa", "aXXa", 2, 2, "X"}, {"xabab", "xab", 3, 5, ""}, {"ababx", "abx", 2, 4, ""}, {"abaXaba", "ababa", 3, 5, ""},
		// A rune of several bytes is no whole.
		{"é", "è", 1, 2, "\xa8"}, {"\xff\x00", "\xff\x01", 1, 2, "\x01"}, {"\x00", "\x00\x00", 1, 1, "\x00"}, {"\x7f\xff", "\xff", 0, 1, ""}, {"a\nb\n", "a\nc\nb\n", 2, 2, "c\n"},
		{"ABC", "abc", 0, 3, "abc"},
	} {
		holdMake(t, r.a, r.b, []api.Edit{edit(r.from, r.to, r.with)})
	}
}

// P14.1: Make of equal texts tells no edit.
func TestMakeOfEqualTexts(t *testing.T) {
	for _, s := range append(texts(4, "ab"), "abc", "\x00", "\xff\xfe", "é", varied(300), varied(api.MaxBody), varied(2*api.MaxBody), strings.Repeat("a", 1000)) {
		if l := delta.Make([]byte(s), []byte(s)); len(l) != 0 {
			t.Errorf("Make of %d bytes %.20q twice: %s", len(s), s, told(l))
		}
		b := []byte(s)
		if l := delta.Make(b, b); len(l) != 0 {
			t.Errorf("Make of one slice twice, %d bytes %.20q: %s", len(s), s, told(l))
		}
	}
	for _, a := range [][]byte{nil, {}} {
		for _, b := range [][]byte{nil, {}, make([]byte, 0, 9)} {
			if l := delta.Make(a, b); len(l) != 0 {
				t.Errorf("Make of no bytes: %s", told(l))
			}
		}
	}
}

// P14.1: Make of all texts of a few bytes over a few letters.
func TestMakeOfAllShortTexts(t *testing.T) {
	for _, all := range [][]string{texts(7, "ab"), texts(4, "abc"), texts(3, "\x00\x7f\x80\xff"), texts(12, "a")} {
		for _, a := range all {
			for _, b := range all {
				holdMake(t, a, b, made(a, b))
			}
		}
	}
}

// P14.1: Make of texts of many lengths, each changed at many places.
func TestMakeOfLongTexts(t *testing.T) {
	for _, n := range []int{1, 255, 256, 257, 4096, api.MaxBody - 1, api.MaxBody, api.MaxBody + 1, 3 * api.MaxBody} {
		for _, s := range []string{varied(n), strings.Repeat("a", n)} {
			for _, at := range []int{0, 1, n / 3, n - 2, n - 1, n} {
				if at < 0 || at > n {
					continue
				}
				for _, with := range []string{"", "a", "ab", "\x00\xff\x00"} {
					for _, size := range []int{0, 1, 100} {
						b := s[:at] + with + s[min(n, at+size):]
						holdMake(t, s, b, made(s, b))
						holdMake(t, b, s, made(b, s))
					}
				}
			}
		}
	}
}

// roomy is a text with other bytes behind it.
func roomy(s string) []byte { return append([]byte(s), "behind"...)[:len(s)] }

// state tells all that some texts and edits have, and what lies behind them.
func state(l []api.Edit, texts ...[]byte) string {
	s := ""
	for _, b := range texts {
		s += fmt.Sprintf("%d %q\n", len(b), b[:cap(b)])
	}
	for _, e := range l[:cap(l)] {
		s += fmt.Sprintf("%d to %d %s", e.From, e.To, state(nil, e.B))
	}
	return s
}

// R3: what is handed in stays as it is, and so does what lies behind it.
func TestHandedIn(t *testing.T) {
	for _, r := range []struct{ a, b string }{{"abc", "axc"}, {"", "x"}, {"x", ""}, {"abc", "abc"}, {"aXa", "aa"}, {varied(1000), varied(999) + "!"}, {varied(api.MaxBody), varied(api.MaxBody) + "!"}, {"", ""}} {
		a, b, encoding := roomy(r.a), roomy(r.b), roomy(printed(made(r.a, r.b)))
		n := len(a)
		all := append(made(r.a, r.b), edit(n, n, ""), edit(n, n, ""), edit(n, n-1, "not valid"))
		for i, e := range all {
			all[i].B = roomy(string(e.B))
		}
		l := all[:len(all)-1]
		was := state(l, a, b, encoding)
		for i, call := range []func(){
			func() { delta.Make(a, b) },
			func() { delta.Make(b, a) },
			func() { delta.Apply(a, l) },
			func() { delta.Apply(a, l[:len(l)-1]) },
			func() { delta.Apply(a, all) },
			func() { delta.Apply(b, nil) },
			func() { delta.Print(l) },
			func() { delta.Print(all) },
			func() { delta.Parse(encoding) },
			func() { delta.Parse(encoding[:len(encoding)/2]) },
		} {
			call()
			if now := state(l, a, b, encoding); now != was {
				t.Fatalf("the call %d turned what it was given: %.200s; want %.200s", i, now, was)
			}
		}
	}
}

// fill writes to all of a slice, and to what lies behind it.
func fill(b []byte) {
	b = b[:cap(b)]
	for i := range b {
		b[i] = '#'
	}
}

// fillEdits writes to all of a list, and to what lies behind it.
func fillEdits(l []api.Edit) {
	l = l[:cap(l)]
	for i := range l {
		fill(l[i].B)
		l[i] = edit(-1, -1, "#")
	}
}

// R3: what Make, Apply, Print and Parse tell is new memory.
func TestHandedOut(t *testing.T) {
	for _, r := range []struct{ a, b string }{{"abc", "axyzc"}, {"", "xyz"}, {"abcdef", "uvwxyz"}, {varied(500), varied(300)}} {
		a, b := []byte(r.a), []byte(r.b)
		want := made(r.a, r.b)

		l, other := delta.Make(a, b), delta.Make(a, b)
		fillEdits(l)
		if string(a) != r.a || string(b) != r.b || !slices.EqualFunc(other, want, same) {
			t.Fatalf("writing to what Make told turned %q, %q, %s", a, b, told(other))
		}
		fill(a)
		fill(b)
		if !slices.EqualFunc(other, want, same) {
			t.Fatalf("writing to what Make was given turned %s; want %s", told(other), told(want))
		}
	}
	for _, l := range [][]api.Edit{nil, {edit(0, 3, "xyz")}, {edit(0, 0, "xyz")}, {edit(1, 2, "xyz"), edit(2, 2, "u")}, {edit(0, 3, "")}, {edit(0, 3, varied(api.MaxBody))}} {
		a, given := []byte("abc"), clone(l)
		want := applied("abc", l)
		got, _ := delta.Apply(a, given)
		other, _ := delta.Apply(a, given)
		fill(got)
		if string(a) != "abc" || !slices.EqualFunc(given, l, same) || string(other) != want {
			t.Errorf("writing to what Apply told turned %q, %s, %q", a, told(given), other)
		}
		fill(a)
		fillEdits(given)
		if string(other) != want {
			t.Errorf("writing to what Apply was given turned %q; want %q", other, want)
		}

		given = clone(l)
		b, more := delta.Print(given), delta.Print(given)
		fill(b)
		fillEdits(given)
		if string(more) != printed(l) {
			t.Errorf("writing to what Print was given turned %x; want %x", more, printed(l))
		}

		b = []byte(printed(l))
		x, _ := delta.Parse(b)
		y, _ := delta.Parse(b)
		fillEdits(x)
		if string(b) != printed(l) || !slices.EqualFunc(y, l, same) {
			t.Errorf("writing to what Parse told turned %x, %s", b, told(y))
		}
		fill(b)
		if !slices.EqualFunc(y, l, same) {
			t.Errorf("writing to what Parse was given turned %s; want %s", told(y), told(l))
		}
	}
}

// R3: no two edits of what Parse tells share any memory.
func TestHandedOutApart(t *testing.T) {
	l := []api.Edit{edit(0, 0, "abc"), edit(1, 2, ""), edit(3, 4, "defghijk"), edit(5, 6, "l")}
	for i := range l {
		got, err := delta.Parse([]byte(printed(l)))
		if err != api.OK || len(got) != len(l) {
			t.Fatalf("Parse: %s, error %d", told(got), err)
		}
		fill(got[i].B)
		_ = append(got[i].B, "#######################"...)
		for j := range l {
			if j != i && !same(got[j], l[j]) {
				t.Errorf("writing to the edit %d turned the edit %d: %s", i, j, told(got))
			}
		}
	}
}

// R2: a call answers the same whatever was done ahead of it or beside it.
func TestSideBySide(t *testing.T) {
	a, b := []byte(varied(3000)), []byte(varied(2000)+"!!"+varied(40))
	l := delta.Make(a, b)
	encoding := delta.Print(l)
	var group sync.WaitGroup
	for range 8 {
		group.Go(func() {
			for range 50 {
				got, err := delta.Apply(a, l)
				if string(got) != string(b) || err != api.OK {
					t.Errorf("Apply: %d bytes, error %d", len(got), err)
				}
				if x := delta.Make(a, b); !slices.EqualFunc(x, l, same) || !bytes.Equal(delta.Print(x), encoding) {
					t.Errorf("Make: %s", told(x))
				}
				if x, err := delta.Parse(encoding); !slices.EqualFunc(x, l, same) || err != api.OK {
					t.Errorf("Parse: %s, error %d", told(x), err)
				}
			}
		})
	}
	group.Wait()
}
