package change_test

import (
	"slices"
	"strings"
	"testing"

	"trestle/api"
	"trestle/change"
)

// withKey is a change with an extra of that key.
func withKey(key string) api.Change {
	return with(func(c *api.Change) { c.Extras = []api.Extra{{Key: key, Value: "v"}} })
}

// withValue is a change with an extra of that value.
func withValue(value string) api.Change {
	return with(func(c *api.Change) { c.Extras = []api.Extra{{Key: "k", Value: value}} })
}

// withExtras is a change with extras of those keys.
func withExtras(keys ...string) api.Change {
	return with(func(c *api.Change) { c.Extras = extras(keys...) })
}

// withCopy is a change with one copy.
func withCopy(from, to string) api.Change {
	return with(func(c *api.Change) { c.Copies = []api.Copy{{From: from, To: to}} })
}

// withCopies is a change with copies to those paths.
func withCopies(paths ...string) api.Change {
	return with(func(c *api.Change) { c.Copies = copies(paths...) })
}

// P17.1: a key is a letter and up to 39 letters, digits, - and periods.
func TestKeys(t *testing.T) {
	for _, s := range []string{"a", "z", "m", "az", "a0", "a9", "a-", "a.", "a--", "a..", "a-.", "a.-9z", "git.user", "git.committer", "close", strings.Repeat("x", 39), strings.Repeat("x", 40), "a" + strings.Repeat(".", 39), "z" + strings.Repeat("9", 39)} {
		accept(t, withKey(s))
	}
	for _, s := range []string{
		"", " ", "-", ".", "0", "9", "-a", ".a", "0a", "9a", " a", "a ", "a b", "A", "Z", "Aa", "aA", "aZ", "aBc", "_", "a_", "_a", "a_b", "a/", "a,b", "a:b", "a`", "a{", "`", "{", "@", "[", "a@", "a[", "a/b", "a\tb", "a\n", "\na", "a\nb", "\n", "a\x00", "\x00", "\x00a", "a+", "a~", "a\x7f",
		"é", "aé", "éa", "aéb", "日", "a日", "ａ", "aａ", "ß", "aß", "\u0430", "a\u0430", "a\u0660", "a\u2010", "\ufffd", "a\ufffd", "\xff", "a\xff", "\xffa", "\xc3", "a\xc3", "a\xe1", "\xe1", "\xed\xa0\x80", "a\xed\xa0\x80", "\xc1\xa1", "a\u0161", "a\u0130", "a\u012d", "\U00010061", "a\U00010061",
		strings.Repeat("x", 41), strings.Repeat("x", 42), strings.Repeat("x", 40) + "é", strings.Repeat("x", 39) + "é", strings.Repeat("x", 39) + "X", strings.Repeat("x", 39) + "\xff", strings.Repeat("x", 100), strings.Repeat("x", 296), strings.Repeat("x", 70000), strings.Repeat("é", 20),
	} {
		refuse(t, withKey(s))
	}
	for n := range 50 {
		if hold(t, withKey(strings.Repeat("k", n))) != (n >= 1 && n <= 40) {
			t.Errorf("a key of %d characters", n)
		}
	}
	const letters = "abcdefghijklmnopqrstuvwxyz"
	for n := range 256 {
		b := string([]byte{byte(n)})
		first := strings.Contains(letters, b)
		if hold(t, withKey(b)) != first || hold(t, withKey(b+"a")) != first || hold(t, withKey(b+strings.Repeat("a", 39))) != first {
			t.Errorf("a key that begins with %q", b)
		}
		later := strings.Contains(letters+"0123456789-.", b)
		if hold(t, withKey("a"+b)) != later || hold(t, withKey("a"+b+"b")) != later || hold(t, withKey(strings.Repeat("a", 39)+b)) != later {
			t.Errorf("a key that holds %q", b)
		}
		for _, key := range []string{"aa", "a.1"} {
			c := withExtras("a", key+b, "zz")
			if hold(t, c) != later {
				t.Errorf("a key %q among others", key+b)
			}
		}
	}
}

// P17.1: a value has no byte 0, and at most MaxBody / 8 bytes.
func TestValues(t *testing.T) {
	for _, s := range []string{"", "x", " ", "\n", "x\ny", "\xff", "\xc3", "\xed\xa0\x80", "é", "00", "\x01", "\x7f", "\r", "extra b 00\n", strings.Repeat("x", 8191), strings.Repeat("x", 8192), strings.Repeat("é", 4096), strings.Repeat("\xff", 8192)} {
		accept(t, withValue(s))
	}
	for _, s := range []string{"\x00", "\x00x", "x\x00", "x\x00y", "\n\x00", "\xff\x00", "é\x00", strings.Repeat("x", 8191) + "\x00", "\x00" + strings.Repeat("x", 8191), strings.Repeat("x", 8193), strings.Repeat("x", 8192) + "\n", strings.Repeat("é", 4096) + "x", strings.Repeat("x", 8191) + "é", strings.Repeat("x", 8192+256), strings.Repeat("x", 16384), strings.Repeat("x", 65536), strings.Repeat("x", 1<<20)} {
		refuse(t, withValue(s))
	}
	for n := range 256 {
		for _, s := range []string{string([]byte{byte(n)}), string([]byte{byte(n), 'a'}), string([]byte{'a', byte(n)})} {
			if hold(t, withValue(s)) != (n != 0) {
				t.Errorf("the value %q", s)
			}
		}
	}
	// The value of each extra counts.
	for i := range 3 {
		for _, s := range []string{"\x00", strings.Repeat("x", 8193)} {
			c := withExtras("a", "b", "c")
			c.Extras[i].Value = s
			refuse(t, c)
		}
	}
}

// P17.1: there are at most 40 extras, in strictly ascending order of their keys.
func TestExtras(t *testing.T) {
	for n := range 60 {
		if hold(t, withExtras(numbered(n)...)) != (n <= 40) {
			t.Errorf("%d extras", n)
		}
	}
	refuse(t, withExtras(numbered(1000)...))
	accept(t, with(func(c *api.Change) { c.Extras = []api.Extra{} }))
	for _, keys := range [][]string{{"a", "b"}, {"a", "aa"}, {"a", "a-"}, {"a-", "a."}, {"a.", "a0"}, {"a0", "aa"}, {"a", "a-b", "a.b", "a0b", "ab"}, {"a-z", "a.a"}, {"aa", "b"}, {"a", "b", "c"}, {"a10", "a2", "a9"}} {
		accept(t, withExtras(keys...))
		slices.Reverse(keys)
		refuse(t, withExtras(keys...))
	}
	for _, keys := range [][]string{{"a", "a"}, {"a", "a", "b"}, {"a", "b", "a"}, {"a", "b", "b"}, {"a", "c", "b"}, {"b", "a", "c"}, {"a", ""}, {"", "a"}, {"a", "B"}, {"A", "b"}, {"a", "b", "C"}, {"a", "b", ""}, {"a", "é"}, {"a", "b\xff"}} {
		refuse(t, withExtras(keys...))
	}
	// Not what the values are, but the keys, tells the order.
	accept(t, with(func(c *api.Change) { c.Extras = []api.Extra{{Key: "a", Value: "z"}, {Key: "b", Value: "a"}} }))
	refuse(t, with(func(c *api.Change) { c.Extras = []api.Extra{{Key: "b", Value: "a"}, {Key: "a", Value: "z"}} }))
	refuse(t, with(func(c *api.Change) { c.Extras = []api.Extra{{Key: "a", Value: "a"}, {Key: "a", Value: "b"}} }))
	for i := range 40 {
		c := withExtras(numbered(40)...)
		c.Extras[i].Key = "A"
		refuse(t, c)
		c = withExtras(numbered(40)...)
		c.Extras[i].Key = c.Extras[(i+1)%40].Key
		refuse(t, c)
	}
}

// badPaths are paths that no copy may have.
var badPaths = []string{
	"", ".", "..", "/", "//", "/a", "a/", "a//b", "a/./b", "a/../b", "./a", "../a", "a/.", "a/..", ".git", ".GIT", ".giT/a", "a/.git", "a/.Git/b",
	"\xff", "a\xff", "\xc3", "\xc3/a", "a/\xc3", "\xed\xa0\x80", "\xc0\x80", "\xc0\x8a", "\x00", "a\x00", "\x00a", "a/b\x00/c",
	"\n", "\n\n", "\na", "a\nb", "a\n", "a/\n", "\n/a", "a/b\nc/d", "é\n", "a\r\n", strings.Repeat("a", api.MaxPath-1) + "\n",
	strings.Repeat("a", api.MaxPath+1), strings.Repeat("é", api.MaxPath/2) + "a", deep(api.MaxDepth + 1), deep(api.MaxDepth) + "/", strings.Repeat("a", 60000), deep(1000),
}

// goodPaths are paths that a copy may have.
var goodPaths = []string{
	"b", "a/b", "README.md", "a b", " ", " /a", "...", ".a", "a.", "git", ".gitx", "\r", "\t", "\x01", "\x7f", "\\n", "\"a\"", "-", "é", "é/日本", "\u0080", "\u2028", "\u0a0a", "\U0010ffff", "\ufffd", "00", "61",
	strings.Repeat("a", api.MaxPath), strings.Repeat("é", api.MaxPath/2), deep(api.MaxDepth),
}

// deep is a path of n names.
func deep(n int) string {
	return strings.TrimSuffix(strings.Repeat("a/", n), "/")
}

// P17.1: both paths of a copy are valid, have no byte 0x0a, and are different.
func TestPaths(t *testing.T) {
	for _, path := range goodPaths {
		accept(t, withCopy(path, "other"))
		accept(t, withCopy("other", path))
		refuse(t, withCopy(path, path))
		c := withCopies("!", "\U0010ffff\U0010ffff")
		c.Copies = slices.Insert(c.Copies, 1, api.Copy{From: "!", To: path})
		c.Copies[0], c.Copies[1] = api.Copy{From: "!", To: " !"}, c.Copies[0]
		slices.SortFunc(c.Copies, func(a, b api.Copy) int { return strings.Compare(a.To, b.To) })
		accept(t, c)
		for i := range c.Copies {
			d := c
			d.Copies = slices.Clone(c.Copies)
			d.Copies[i].From = d.Copies[i].To
			refuse(t, d)
		}
	}
	for _, path := range badPaths {
		refuse(t, withCopy(path, "other"))
		refuse(t, withCopy("other", path))
		refuse(t, withCopy(path, path))
		refuse(t, withCopies("!", path))
		for i := range 3 {
			c := withCopies("a", "b", "c")
			c.Copies[i].From = path
			refuse(t, c)
		}
	}
	// A copy may be from a path that is a directory of its own, or from one that
	// is copied to.
	accept(t, withCopy("a", "a/b"))
	accept(t, withCopy("a/b", "a"))
	accept(t, with(func(c *api.Change) { c.Copies = []api.Copy{{From: "b", To: "a"}, {From: "a", To: "b"}} }))
	accept(t, withCopies("a", "a/b", "a/b/c"))
	for n := range 256 {
		for _, s := range []string{string([]byte{byte(n)}), string([]byte{byte(n), 'a'}), string([]byte{'a', byte(n)}), string([]byte{'a', byte(n), 'b'})} {
			hold(t, withCopy(s, "other"))
			hold(t, withCopy("other", s))
		}
	}
}

// P17.1: there are at most MaxFiles copies, in strictly ascending order of To.
func TestCopies(t *testing.T) {
	for _, n := range []int{0, 1, 2, 10, 40, 41, 255, 256, 257, 499, 500} {
		accept(t, withCopies(numbered(n)...))
	}
	for _, n := range []int{501, 502, 1000, 2000} {
		refuse(t, withCopies(numbered(n)...))
	}
	accept(t, with(func(c *api.Change) { c.Copies = []api.Copy{} }))
	for _, paths := range [][]string{{"a", "b"}, {"a", "aa"}, {"a", "a.b", "a/b", "a0"}, {"B", "a"}, {"a", "b", "é"}, {"z", "é", "日"}, {"\uffff", "\U00010000"}, {"a10", "a2", "a9"}, {"a", "a "}} {
		accept(t, withCopies(paths...))
		slices.Reverse(paths)
		refuse(t, withCopies(paths...))
	}
	for _, paths := range [][]string{{"a", "a"}, {"a", "a", "b"}, {"a", "b", "a"}, {"a", "b", "b"}, {"a", "c", "b"}, {"b", "a", "c"}, {"a/b", "a.b"}} {
		refuse(t, withCopies(paths...))
	}
	// Not where they are from, but To, tells the order.
	accept(t, with(func(c *api.Change) { c.Copies = []api.Copy{{From: "z", To: "a"}, {From: "a", To: "b"}} }))
	refuse(t, with(func(c *api.Change) { c.Copies = []api.Copy{{From: "a", To: "c"}, {From: "z", To: "b"}} }))
	refuse(t, with(func(c *api.Change) { c.Copies = []api.Copy{{From: "a", To: "c"}, {From: "b", To: "c"}} }))
	for i := range 500 {
		c := withCopies(numbered(500)...)
		c.Copies[i].To = c.Copies[(i+1)%500].To
		refuse(t, c)
	}
}

// P17.1: two faults are no less than one.
func TestTwoFaults(t *testing.T) {
	turns := []func(c *api.Change){
		func(c *api.Change) { c.P1, c.P2 = api.Id{}, one },
		func(c *api.Change) { c.P1, c.P2 = one, one },
		func(c *api.Change) { c.User = "" },
		func(c *api.Change) { c.When = -1 },
		func(c *api.Change) { c.Zone = 841 },
		func(c *api.Change) { c.Branch = "-" },
		func(c *api.Change) { c.Extras = extras("b", "a") },
		func(c *api.Change) { c.Extras = extras(numbered(41)...) },
		func(c *api.Change) { c.Copies = copies("b", "a") },
		func(c *api.Change) { c.Copies = copies(numbered(501)...) },
		func(c *api.Change) { c.Text = "\x00" },
		func(c *api.Change) { c.Text = strings.Repeat("x", 70000) },
	}
	for _, first := range turns {
		for _, second := range turns {
			c := full()
			first(&c)
			second(&c)
			refuse(t, c)
		}
	}
}

// P17.1: Get tells the value of the first extra of a key, be the change valid
// or not.
func TestGet(t *testing.T) {
	holds := func(c api.Change, key, want string, wantOk bool) {
		t.Helper()
		if value, ok := change.Get(c, key); value != want || ok != wantOk {
			t.Errorf("Get of %q of %s: %q, %t; want %q, %t", key, told(c), value, ok, want, wantOk)
		}
	}
	c := full()
	holds(c, "a", "", true)
	holds(c, "b.1-", "x\ny", true)
	holds(c, "close", "1", true)
	for _, key := range []string{"", "A", "b", "b.1", "b.1-x", "clos", "closex", " a", "a ", "a\x00", "x\ny", "1", "user", "branch", "é", "\xff", "text\n"} {
		holds(c, key, "", false)
		holds(plain(), key, "", false)
		holds(api.Change{}, key, "", false)
		holds(with(func(c *api.Change) { c.Extras = []api.Extra{} }), key, "", false)
	}
	for i, key := range numbered(40) {
		holds(withExtras(numbered(40)...), key, strings.Repeat("v", i%7), true)
	}
	// What no change may have.
	twice := with(func(c *api.Change) {
		c.Extras = []api.Extra{{Key: "b", Value: "1"}, {Key: "a", Value: "2"}, {Key: "b", Value: "3"}, {Key: "a", Value: "4"}, {Key: "", Value: "5"}, {Key: "\xff", Value: "\x00"}, {Key: "", Value: "6"}, {Key: "É", Value: "7"}}
	})
	holds(twice, "a", "2", true)
	holds(twice, "b", "1", true)
	holds(twice, "", "5", true)
	holds(twice, "\xff", "\x00", true)
	holds(twice, "\ufffd", "", false)
	holds(twice, "É", "7", true)
	holds(twice, "é", "", false)
	holds(withExtras(numbered(1000)...), "k0999", strings.Repeat("v", 999%7), true)
	holds(api.Change{Extras: []api.Extra{{Key: "a", Value: "b"}}}, "a", "b", true)
	empty := with(func(c *api.Change) { c.Extras = []api.Extra{{Key: "a", Value: ""}, {Key: "a", Value: "x"}} })
	holds(empty, "a", "", true)
}
