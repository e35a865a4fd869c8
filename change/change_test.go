package change_test

import (
	"bytes"
	"crypto/sha1"
	"encoding/hex"
	"fmt"
	"math"
	"regexp"
	"slices"
	"strconv"
	"strings"
	"testing"
	"unicode/utf8"

	"trestle/api"
	"trestle/change"
	"trestle/refname"
)

// Ids as they are told.
const (
	zeroText = "0000000000000000000000000000000000000000"
	none     = "e69de29bb2d1d6434b8b29ae775ad8c2e48c5391"
)

var (
	one = api.Id{0: 1}
	two = api.Id{19: 2}
)

// plain is a valid change that the tests turn in one place each.
func plain() api.Change {
	return api.Change{User: "A <a@b>", When: 5, Zone: -90, Branch: "default", Text: "x\ny"}
}

// full is a valid change that has something in each place.
func full() api.Change {
	return api.Change{
		P1: one, P2: two, Manifest: idFrom(none), User: "B é", When: 1234567890, Zone: 120, Branch: "a/b",
		Extras: []api.Extra{{Key: "a", Value: ""}, {Key: "b.1-", Value: "x\ny"}, {Key: "close", Value: "1"}},
		Copies: []api.Copy{{From: "f", To: "a"}, {From: "d/f", To: "é"}},
		Text:   "text\n",
	}
}

// with is the plain change with one thing turned.
func with(turn func(c *api.Change)) api.Change {
	c := plain()
	turn(&c)
	return c
}

// extras makes extras of some keys, each of another value.
func extras(keys ...string) []api.Extra {
	var l []api.Extra
	for i, key := range keys {
		l = append(l, api.Extra{Key: key, Value: strings.Repeat("v", i%7)})
	}
	return l
}

// copies makes copies to some paths.
func copies(paths ...string) []api.Copy {
	var l []api.Copy
	for _, path := range paths {
		l = append(l, api.Copy{From: "from", To: path})
	}
	return l
}

// numbered are n texts in order.
func numbered(n int) []string {
	var l []string
	for i := range n {
		l = append(l, fmt.Sprintf("k%04d", i))
	}
	return l
}

// sized is a valid change but for the length of its encoding, which has as
// many bytes as told.
func sized(t *testing.T, total int) api.Change {
	t.Helper()
	c := full()
	c.Text = ""
	c.Extras = []api.Extra{{Key: "a", Value: strings.Repeat("v", api.MaxBody/8)}, {Key: "b", Value: strings.Repeat("w", api.MaxBody/8-3)}}
	c.Text = strings.Repeat("x", total-len(encoded(c)))
	if len(c.Text) > api.MaxBody/2 || len(encoded(c)) != total {
		t.Fatalf("no change has an encoding of %d bytes", total)
	}
	return c
}

// idFrom reads 40 digits.
func idFrom(s string) api.Id {
	b, err := hex.DecodeString(s)
	if err != nil {
		panic(err)
	}
	return api.Id(b)
}

// told tells a change for a message.
func told(c api.Change) string {
	return fmt.Sprintf("parents %.4x %.4x, manifest %.4x, user %.40q, %d %d, branch %.40q, %d extras %.100q, %d copies %.100q, %d bytes %.40q",
		c.P1[:], c.P2[:], c.Manifest[:], c.User, c.When, c.Zone, c.Branch, len(c.Extras), fmt.Sprint(c.Extras), len(c.Copies), fmt.Sprint(c.Copies), len(c.Text), c.Text)
}

// same tells whether two changes are equal, as R9 says.
func same(a, b api.Change) bool {
	return a.P1 == b.P1 && a.P2 == b.P2 && a.Manifest == b.Manifest && a.User == b.User && a.When == b.When && a.Zone == b.Zone && a.Branch == b.Branch &&
		slices.Equal(a.Extras, b.Extras) && slices.Equal(a.Copies, b.Copies) && a.Text == b.Text
}

// encoded is what the chapter says of an encoding, be the change valid or not.
func encoded(c api.Change) []byte {
	var b bytes.Buffer
	fmt.Fprintf(&b, "%x\n%s\n%d %d\nbranch %s\n", c.Manifest[:], c.User, c.When, c.Zone, c.Branch)
	for _, e := range c.Extras {
		fmt.Fprintf(&b, "extra %s %x\n", e.Key, e.Value)
	}
	for _, k := range c.Copies {
		fmt.Fprintf(&b, "copy %x %x\n", k.From, k.To)
	}
	b.WriteString("\n" + c.Text)
	return b.Bytes()
}

var keyForm = regexp.MustCompile(`\A[a-z][-.0-9a-z]{0,39}\z`)

// goodPath is what the chapters 3 and 17 say of a path.
func goodPath(s string) bool {
	names := strings.Split(s, "/")
	for _, name := range names {
		if name == "" || name == "." || name == ".." || strings.ToLower(name) == ".git" {
			return false
		}
	}
	return len(s) <= 400 && len(names) <= 16 && utf8.ValidString(s) && !strings.ContainsAny(s, "\x00\n")
}

// ascends tells whether each text is less than the one behind it.
func ascends(l []string) bool {
	for i := range l {
		for j := range i {
			if l[j] >= l[i] {
				return false
			}
		}
	}
	return true
}

// valid is what the chapter says of a change.
func valid(c api.Change) bool {
	if c.P1 == (api.Id{}) && c.P2 != (api.Id{}) || c.P1 == c.P2 && c.P1 != (api.Id{}) {
		return false
	}
	if len(c.User) < 1 || len(c.User) > 400 || !utf8.ValidString(c.User) || strings.Contains(c.User, "\x00") || strings.Contains(c.User, "\n") {
		return false
	}
	if c.When < 0 || c.When >= 1<<40 || c.Zone < -840 || c.Zone > 840 || !refname.Branch(c.Branch) {
		return false
	}
	if len(c.Extras) > 40 || len(c.Copies) > 500 || len(c.Text) > 32768 || strings.Contains(c.Text, "\x00") {
		return false
	}
	var keys, paths []string
	for _, e := range c.Extras {
		keys = append(keys, e.Key)
		if !keyForm.MatchString(e.Key) || len(e.Value) > 8192 || strings.Contains(e.Value, "\x00") {
			return false
		}
	}
	for _, k := range c.Copies {
		paths = append(paths, k.To)
		if !goodPath(k.From) || !goodPath(k.To) || k.From == k.To {
			return false
		}
	}
	return ascends(keys) && ascends(paths) && len(encoded(c)) <= 65536
}

var (
	form      = regexp.MustCompile(`\A([0-9a-f]{40})\n([^\n]*)\n(-?[0-9]{1,19}) (-?[0-9]{1,19})\nbranch ([^\n]*)\n((?:extra [^\n]*\n)*)((?:copy [^\n]*\n)*)\n`)
	extraForm = regexp.MustCompile(`\Aextra ([^ ]*) ((?:[0-9a-f]{2})*)\z`)
	copyForm  = regexp.MustCompile(`\Acopy ((?:[0-9a-f]{2})*) ((?:[0-9a-f]{2})*)\z`)
)

// bytesOf reads digits that have the form of some.
func bytesOf(s string) string {
	b, err := hex.DecodeString(s)
	if err != nil {
		panic(err)
	}
	return string(b)
}

// parsed is what the chapter says of Parse; false: there is no such change.
func parsed(b []byte, p1, p2 api.Id) (api.Change, bool) {
	m := form.FindSubmatch(b)
	if m == nil {
		return api.Change{}, false
	}
	c := api.Change{P1: p1, P2: p2, Manifest: idFrom(string(m[1])), User: string(m[2]), Branch: string(m[5]), Text: string(b[len(m[0]):])}
	var errs [2]error
	c.When, errs[0] = strconv.ParseInt(string(m[3]), 10, 64)
	c.Zone, errs[1] = strconv.Atoi(string(m[4]))
	for s := range strings.Lines(string(m[6])) {
		e := extraForm.FindStringSubmatch(strings.TrimSuffix(s, "\n"))
		if e == nil {
			return api.Change{}, false
		}
		c.Extras = append(c.Extras, api.Extra{Key: e[1], Value: bytesOf(e[2])})
	}
	for s := range strings.Lines(string(m[7])) {
		k := copyForm.FindStringSubmatch(strings.TrimSuffix(s, "\n"))
		if k == nil {
			return api.Change{}, false
		}
		c.Copies = append(c.Copies, api.Copy{From: bytesOf(k[1]), To: bytesOf(k[2])})
	}
	if errs != [2]error{} || !valid(c) || !bytes.Equal(encoded(c), b) {
		return api.Change{}, false
	}
	return c, true
}

// nodeOf is what the chapters 15 and 17 say of the node of a valid change.
func nodeOf(c api.Change) api.Id {
	return sha1.Sum(slices.Concat(c.P1[:], c.P2[:], encoded(c)))
}

// accept expects that a change is valid, and goes through Print and Parse.
func accept(t *testing.T, c api.Change) {
	t.Helper()
	if !valid(c) || !change.Right(c) {
		t.Errorf("Right of %s: %t; the test's own reading: %t", told(c), change.Right(c), valid(c))
		return
	}
	b, err := change.Print(c)
	if err != api.OK || !bytes.Equal(b, encoded(c)) {
		t.Errorf("Print of %s: %.400q, error %d; want %.400q", told(c), b, err, encoded(c))
	}
	if node := change.Node(c); node != nodeOf(c) {
		t.Errorf("Node of %s: %x; want %x", told(c), node, nodeOf(c))
	}
	if back, err := change.Parse(b, c.P1, c.P2); err != api.OK || !same(back, c) {
		t.Errorf("Parse of what Print told: %s, error %d; want %s", told(back), err, told(c))
	}
}

// refuse expects that a change is not valid, and that nothing is told of it.
func refuse(t *testing.T, c api.Change) {
	t.Helper()
	if valid(c) || change.Right(c) {
		t.Errorf("Right of %s: %t; the test's own reading: %t", told(c), change.Right(c), valid(c))
	}
	if b, err := change.Print(c); err != api.ErrForm || len(b) != 0 {
		t.Errorf("Print of %s: %.400q, error %d; want error %d", told(c), b, err, api.ErrForm)
	}
	if node := change.Node(c); node != (api.Id{}) {
		t.Errorf("Node of %s: %x; want the zero id", told(c), node)
	}
	holdParse(t, encoded(c), c.P1, c.P2)
}

// hold holds what is told of a change against the chapter, and tells whether it
// is valid.
func hold(t *testing.T, c api.Change) bool {
	t.Helper()
	if valid(c) {
		accept(t, c)
		return true
	}
	refuse(t, c)
	return false
}

// holdParse holds what Parse answers against the chapter, and tells whether
// there is a change.
func holdParse(t *testing.T, b []byte, p1, p2 api.Id) bool {
	t.Helper()
	want, ok := parsed(b, p1, p2)
	c, err := change.Parse(b, p1, p2)
	if !ok {
		if err != api.ErrForm || !same(c, api.Change{}) {
			t.Errorf("Parse of %d bytes %.400q: %s, error %d; want error %d", len(b), b, told(c), err, api.ErrForm)
		}
		return false
	}
	if err != api.OK || !same(c, want) {
		t.Errorf("Parse of %d bytes %.400q: %s, error %d; want %s", len(b), b, told(c), err, told(want))
		return true
	}
	if again, err := change.Print(c); err != api.OK || !bytes.Equal(again, b) {
		t.Errorf("Print of what Parse told: %.400q, error %d; want %.400q", again, err, b)
	}
	return true
}

// P17.1: encodings as the chapter tells them, written out, and their nodes as
// another program tells them.
func TestKnown(t *testing.T) {
	first := api.Change{User: "A <a@b>", When: 5, Zone: -90, Branch: "default", Text: "x\ny"}
	second := api.Change{Manifest: idFrom(none), User: "u", Branch: "b", Extras: []api.Extra{{Key: "a"}, {Key: "b.1-", Value: "x\ny"}}, Copies: []api.Copy{{From: "f", To: "a"}, {From: "f", To: "é"}}}
	third := api.Change{Manifest: idFrom(none), User: "é", When: 1099511627775, Zone: 840, Branch: "a/b"}
	firstText := zeroText + "\nA <a@b>\n5 -90\nbranch default\n\nx\ny"
	secondText := none + "\nu\n0 0\nbranch b\nextra a \nextra b.1- 780a79\ncopy 66 61\ncopy 66 c3a9\n\n"
	thirdText := none + "\né\n1099511627775 840\nbranch a/b\n\n"
	for _, r := range []struct {
		c          api.Change
		p1, p2     api.Id
		text, node string
	}{
		{first, api.Id{}, api.Id{}, firstText, "b57ef3de56522544dfc6bb6f3011e822e97c2035"},
		{first, one, api.Id{}, firstText, "eba76b499e46c6e442275739b521dee77a9d2752"},
		{first, one, two, firstText, "a782b14e46c2059a01ca452adefb7a72bce78509"},
		{first, two, one, firstText, "8c762901a9b68e1c9ff729840aaf94aab99da00d"},
		{second, api.Id{}, api.Id{}, secondText, "0502879bd58495bd3b0e667918a7a79cc1ef3b37"},
		{second, two, one, secondText, "87cf9a6c7df1d42b50880d3be2f463e823c97842"},
		{third, api.Id{}, api.Id{}, thirdText, "9472d678f09ee3b8d3bb8f0c6452bd39a8bc87e9"},
	} {
		r.c.P1, r.c.P2 = r.p1, r.p2
		if b, err := change.Print(r.c); err != api.OK || string(b) != r.text {
			t.Errorf("Print of %s: %q, error %d; want %q", told(r.c), b, err, r.text)
		}
		if c, err := change.Parse([]byte(r.text), r.p1, r.p2); err != api.OK || !same(c, r.c) {
			t.Errorf("Parse of %q: %s, error %d; want %s", r.text, told(c), err, told(r.c))
		}
		if node := change.Node(r.c); node != idFrom(r.node) {
			t.Errorf("Node of %s: %x; want %s", told(r.c), node, r.node)
		}
		accept(t, r.c)
	}
	accept(t, full())
	refuse(t, api.Change{})
}

// P17.1: a second parent stands only beside a first one that is another.
func TestParents(t *testing.T) {
	accepted := 0
	ids := []api.Id{{}, one, two, {0: 1, 19: 1}, {10: 1}, {19: 1}, {0: 255}, {19: 255}}
	for _, p1 := range ids {
		for _, p2 := range ids {
			c := full()
			c.P1, c.P2 = p1, p2
			if hold(t, c) {
				accepted++
			}
			right := p2 == api.Id{} || p1 != api.Id{} && p1 != p2
			if holdParse(t, encoded(full()), p1, p2) != right {
				t.Errorf("Parse with the parents %x and %x: not %t", p1, p2, right)
			}
		}
	}
	if accepted != 1+7+7*6 {
		t.Errorf("%d pairs of parents are taken", accepted)
	}
	accept(t, with(func(c *api.Change) {}))
	accept(t, with(func(c *api.Change) { c.P1 = one }))
	accept(t, with(func(c *api.Change) { c.P1, c.P2 = one, two }))
	refuse(t, with(func(c *api.Change) { c.P1, c.P2 = one, one }))
	refuse(t, with(func(c *api.Change) { c.P2 = one }))
}

// P17.1: a manifest may be any id, the zero one too.
func TestManifests(t *testing.T) {
	for i := range 20 {
		for n := range 256 {
			accept(t, with(func(c *api.Change) { c.Manifest[i] = byte(n) }))
		}
	}
	accept(t, with(func(c *api.Change) { c.P1, c.Manifest = one, one }))
}

// P17.1: the user.
func TestUsers(t *testing.T) {
	for _, s := range []string{
		"a", " ", " a ", "\r", "\t", "\x01", "\x7f", "é", "日本", "\u0080", "\u0085", "\u2028", "\ufffd", "\U0010ffff", "\ufeff", "<>", "A <a@b> 5 -90", "branch default", "extra a 00", zeroText, "0 0", "\"", "\\", "\\n", "\\x00", "%00",
		strings.Repeat("x", 399), strings.Repeat("x", 400), strings.Repeat("é", 200), strings.Repeat("日", 133) + "x", strings.Repeat("\U0010ffff", 100),
	} {
		accept(t, with(func(c *api.Change) { c.User = s }))
	}
	for _, s := range []string{
		"", "\n", "\na", "a\n", "a\nb", "\x00", "\x00a", "a\x00", "a\x00b", "\r\n", "é\n", "\né", "\xff", "a\xff", "\xffa", "\xc3", "a\xc3", "\xc3a", "\xa9", "\xed\xa0\x80", "\xc0\x80", "\xc0\x8a", "\xf4\x90\x80\x80", "\xe6\x97",
		"a\n5 -90\nbranch default\n\n", strings.Repeat("x", 399) + "\n", strings.Repeat("x", 399) + "\x00", strings.Repeat("x", 399) + "\xff",
		strings.Repeat("x", 401), strings.Repeat("é", 200) + "x", strings.Repeat("x", 399) + "é", strings.Repeat("日", 134), strings.Repeat("é", 400), strings.Repeat("x", 500), strings.Repeat("x", 100000),
	} {
		refuse(t, with(func(c *api.Change) { c.User = s }))
	}
	for n := range 410 {
		s := strings.Repeat("u", n)
		if hold(t, with(func(c *api.Change) { c.User = s })) != (n >= 1 && n <= 400) {
			t.Errorf("a user of %d bytes", n)
		}
	}
	for n := range 256 {
		for _, s := range []string{string([]byte{byte(n)}), string([]byte{byte(n), 'a'}), string([]byte{'a', byte(n)}), string([]byte{'a', byte(n), 'b'})} {
			if hold(t, with(func(c *api.Change) { c.User = s })) != (n != 0 && n != 10 && n < 128) {
				t.Errorf("the user %q", s)
			}
		}
	}
}

// P17.1: the time and the zone.
func TestDates(t *testing.T) {
	for _, n := range []int64{0, 1, 9, 10, 59, 99, 100, math.MaxInt32, math.MaxInt32 + 1, math.MaxUint32, math.MaxUint32 + 1, api.MaxWhen - 1, api.MaxWhen} {
		accept(t, with(func(c *api.Change) { c.When = n }))
	}
	for _, n := range []int64{-1, -2, -5, api.MaxWhen + 1, api.MaxWhen + 2, 2 * api.MaxWhen, -api.MaxWhen, math.MinInt64, math.MinInt64 + 1, math.MinInt64 + 5, math.MaxInt64, math.MaxInt64 - 1, math.MinInt32} {
		refuse(t, with(func(c *api.Change) { c.When = n }))
	}
	for n := -850; n <= 850; n++ {
		if hold(t, with(func(c *api.Change) { c.Zone = n })) != (n >= -840 && n <= 840) {
			t.Errorf("the zone %d", n)
		}
	}
	for _, n := range []int{1000, -1000, 6000, 1 << 16, 1<<16 + 60, 1 << 32, 1<<32 + 60, -1 << 32, 60 - 1<<32, math.MaxInt, math.MinInt, math.MinInt + 1, math.MaxInt32, math.MinInt32} {
		refuse(t, with(func(c *api.Change) { c.Zone = n }))
	}
}

// P17.1: the branch is one that refname.Branch takes.
func TestBranches(t *testing.T) {
	for _, s := range []string{
		"a", "default", "a/b", "a/b/c", "é", "日本/x", "a-", "a-b", "a/-b", "a.b", "a@b", "@", "a{b", "{", "a.lockx", "lock", "a$b", "\"", "'", "<a>", "\u0080", "\u2028", "\ufffd", "branch", "heads/a", "refs/heads/a",
		strings.Repeat("x", 188), strings.Repeat("x", 189), strings.Repeat("é", 94) + "x",
	} {
		accept(t, with(func(c *api.Change) { c.Branch = s }))
	}
	for _, s := range []string{
		"", "-", "-a", "-a/b", "/", "/a", "a/", "a//b", ".", "..", ".a", "a/.b", "a.lock", ".lock", "a.lock/b", "a/b.lock", "a..b", "a@{b", "@{", "a.", "a/b.",
		"a b", " a", "a ", "a~", "a^", "a:b", "a?", "a*", "a[", "a\\b", "\x00", "a\x00", "\n", "a\n", "a\nb", "\na", "\t", "a\x01b", "a\x1f", "a\x7f", "\xff", "a\xc3", "\xed\xa0\x80", "a\nextra a 00",
		strings.Repeat("x", 190), strings.Repeat("é", 95), strings.Repeat("x", 200), strings.Repeat("x", 1000), strings.Repeat("x", 100000),
	} {
		refuse(t, with(func(c *api.Change) { c.Branch = s }))
	}
}

// P17.1: the text.
func TestTexts(t *testing.T) {
	for _, s := range []string{
		"", "x", "x\n", "\n", "\nx", "\n\n", "x\n\ny", " ", "\r\n", "\t", "\x01", "\x7f", "\xff", "\xc3", "a\xc3\nb", "\xed\xa0\x80", "é", "日本\n", "\ufffd",
		"extra a 00\n", "copy 66 61\n", "branch default\n", "\nextra a 00\n", zeroText + "\n", strings.Repeat("\n", 1000),
		strings.Repeat("x", 32767), strings.Repeat("x", 32768), strings.Repeat("é", 16384), strings.Repeat("\xff", 32768), strings.Repeat("\n", 32768),
	} {
		accept(t, with(func(c *api.Change) { c.Text = s }))
	}
	for _, s := range []string{
		"\x00", "\x00x", "x\x00", "x\x00y", "\n\x00", "\x00\n", "é\x00", "\xff\x00", "\x00\x00", strings.Repeat("x", 32767) + "\x00", "\x00" + strings.Repeat("x", 32767),
		strings.Repeat("x", 32769), strings.Repeat("x", 32768) + "\n", strings.Repeat("é", 16384) + "x", strings.Repeat("x", 32767) + "é", strings.Repeat("日", 16384), strings.Repeat("x", 65536), strings.Repeat("x", 1<<20),
	} {
		refuse(t, with(func(c *api.Change) { c.Text = s }))
	}
	for n := range 256 {
		for _, s := range []string{string([]byte{byte(n)}), string([]byte{byte(n), 'a'}), string([]byte{'a', byte(n)})} {
			if hold(t, with(func(c *api.Change) { c.Text = s })) != (n != 0) {
				t.Errorf("the text %q", s)
			}
		}
	}
}

// P17.1: an encoding has at most MaxBody bytes.
func TestSizes(t *testing.T) {
	for total := 65536 - 20; total <= 65536; total++ {
		accept(t, sized(t, total))
	}
	for total := 65537; total < 65536+20; total++ {
		refuse(t, sized(t, total))
	}
	// Each part may be the one that has a byte too many.
	for _, turn := range []func(c *api.Change){
		func(c *api.Change) { c.User += "u" },
		func(c *api.Change) { c.When *= 10 },
		func(c *api.Change) { c.Zone = -c.Zone },
		func(c *api.Change) { c.Branch += "b" },
		func(c *api.Change) { c.Text += "x" },
		func(c *api.Change) { c.Extras[0].Key += "k" },
		func(c *api.Change) { c.Extras[1].Value += "v" },
		func(c *api.Change) { c.Extras = append(c.Extras, api.Extra{Key: "c"}) },
		func(c *api.Change) { c.Copies[0].From += "f" },
		func(c *api.Change) { c.Copies[1].To += "t" },
		func(c *api.Change) { c.Copies = append(c.Copies, api.Copy{From: "a", To: "\U0010ffff"}) },
	} {
		c := sized(t, 65536)
		turn(&c)
		refuse(t, c)
		c.Text = c.Text[:len(c.Text)-100]
		accept(t, c)
	}
	// One that has nothing but what it must have, and a text.
	many := with(func(c *api.Change) {
		for i := range 500 {
			c.Copies = append(c.Copies, api.Copy{From: "f", To: fmt.Sprintf("%04d", i) + strings.Repeat("x", 51)})
		}
	})
	short := 65536 - len(encoded(many))
	if short < 0 || short > 10000 {
		t.Fatalf("%d bytes are left", short)
	}
	many.Text += strings.Repeat("x", short)
	accept(t, many)
	many.Text += "x"
	refuse(t, many)
	for i := range many.Copies {
		many.Copies[i].From = strings.Repeat("f", 400)
	}
	refuse(t, many)
}
