package commit_test

import (
	"bytes"
	"encoding/hex"
	"fmt"
	"math"
	"regexp"
	"slices"
	"strings"
	"sync"
	"testing"

	"trestle/api"
	"trestle/commit"
	"trestle/ident"
	"trestle/object"
)

var (
	alice = api.Ident{Name: "A", Email: "a@b", When: 5, Zone: -90}
	bob   = api.Ident{Name: "B C", Email: "b", When: 6, Zone: 120}
)

const (
	aliceText = "A <a@b> 5 -0130"
	bobText   = "B C <b> 6 +0200"
	empty     = "4b825dc642cb6eb9a060e54bf8d69288fbee4904"
	zeroText  = "0000000000000000000000000000000000000000"
)

// goodIdents are idents that a commit may have, odd ones among them.
var goodIdents = []api.Ident{
	{}, alice, bob, {Name: "A"}, {Email: "a"}, {When: api.MaxWhen}, {Zone: api.MaxZone}, {Zone: -api.MaxZone}, {Zone: -1},
	{Name: "é", Email: "日本"}, {Name: "a\tb\r", Email: "\x01\x7f"}, {Name: "\ufffd"}, {Name: "author", Email: "committer"}, {Name: "5 +0000", Email: "parent " + empty},
	{Name: strings.Repeat("a", api.MaxName), Email: strings.Repeat("é", api.MaxName/2), When: api.MaxWhen, Zone: -api.MaxZone},
}

// badIdents are idents that no commit may have.
var badIdents = []api.Ident{
	{Name: " "}, {Name: " a"}, {Name: "a "}, {Name: "a\nb"}, {Name: "\n"}, {Name: "a\x00"}, {Name: "<"}, {Name: "a>b"}, {Name: "\xff"}, {Name: strings.Repeat("a", api.MaxName+1)},
	{Email: " "}, {Email: " a"}, {Email: "a "}, {Email: "a\nb"}, {Email: "\n"}, {Email: "a\x00"}, {Email: "<"}, {Email: "a>b"}, {Email: "\xff"}, {Email: strings.Repeat("a", api.MaxName+1)},
	{When: -1}, {When: api.MaxWhen + 1}, {When: math.MinInt64}, {When: math.MaxInt64}, {Zone: api.MaxZone + 1}, {Zone: -api.MaxZone - 1}, {Zone: math.MinInt}, {Zone: math.MaxInt},
	{Name: "A", Email: "a@b", When: 5, Zone: 6000}, {Name: "A\ncommitter " + aliceText + "\n\n", Email: "a@b"}, {Name: "A", Email: "a@b> 5 +0000\ncommitter A <a@b"},
}

// goodTexts are texts that a commit may have, odd ones among them.
var goodTexts = []string{
	"", "x", "x\n", "\n", "\nx", "\n\n", "\n\nx\n\n", "x\n\ny", " ", " x ", "\r\n", "\t", "\x01", "\x7f", "\xff", "\xc3", "a\xc3\nb", "\xed\xa0\x80", "é", "日本\n", "\ufeffx", "\ufffd", "\U0010ffff",
	"tree " + empty + "\n", "parent " + empty + "\n", "\nparent " + empty + "\n", "author " + aliceText + "\n", "committer " + aliceText, "committer " + aliceText + "\n\nx", "encoding UTF-8\n\nx", "gpgsig x\n",
	"tree " + empty + "\nauthor " + aliceText + "\ncommitter " + bobText + "\n\n", strings.Repeat("\n", 1000), strings.Repeat("author ", 100),
	strings.Repeat("x", api.MaxBody/2-1), strings.Repeat("x", api.MaxBody/2), strings.Repeat("é", api.MaxBody/4), strings.Repeat("\xff", api.MaxBody/2), strings.Repeat("\n", api.MaxBody/2),
}

// badTexts are texts that no commit may have.
var badTexts = []string{
	"\x00", "\x00x", "x\x00", "x\x00y", "\n\x00", "\x00\n", "x\n\x00\ny", "é\x00", "\xff\x00", "\x00\x00", strings.Repeat("x", api.MaxBody/2-1) + "\x00", "\x00" + strings.Repeat("x", api.MaxBody/2-1),
	strings.Repeat("x", api.MaxBody/2+1), strings.Repeat("x", api.MaxBody/2) + "\n", strings.Repeat("é", api.MaxBody/4) + "x", strings.Repeat("x", api.MaxBody/2-1) + "é", strings.Repeat("日", api.MaxBody/4), strings.Repeat("x", api.MaxBody), strings.Repeat("x", api.MaxBody+1), strings.Repeat("x", 1<<20),
}

// idOf is an id that is not zero, another one for each number.
func idOf(n int) api.Id {
	id := api.Id{19: byte(n), 18: byte(n >> 8)}
	id[n%18] = 0xa5
	return id
}

// ids are n of them.
func ids(n int) []api.Id {
	l := make([]api.Id, n)
	for i := range l {
		l[i] = idOf(i)
	}
	return l
}

// nearlyZero is an id that has one byte that is not 0.
func nearlyZero(at int) api.Id {
	var id api.Id
	id[at] = 1
	return id
}

// plain is a valid record that the tests turn in one place each.
func plain() api.Record {
	return api.Record{Tree: idOf(300), Author: alice, Committer: bob, Text: "x\n"}
}

// with is that record with these parents.
func with(parents ...api.Id) api.Record {
	c := plain()
	c.Parents = parents
	return c
}

// header is an encoding's with the ids as they are told.
func header(tree string, parents ...string) string {
	s := "tree " + tree + "\n"
	for _, p := range parents {
		s += "parent " + p + "\n"
	}
	return s + "author " + aliceText + "\ncommitter " + bobText + "\n\n"
}

// encoded is what the chapter says of an encoding, be the record valid or not.
func encoded(c api.Record) []byte {
	var b bytes.Buffer
	fmt.Fprintf(&b, "tree %x\n", c.Tree[:])
	for _, p := range c.Parents {
		fmt.Fprintf(&b, "parent %x\n", p[:])
	}
	for _, x := range []struct {
		word string
		who  api.Ident
	}{{"author", c.Author}, {"committer", c.Committer}} {
		b.WriteString(x.word + " ")
		if x.who.Name != "" {
			b.WriteString(x.who.Name + " ")
		}
		sign, zone := '+', x.who.Zone
		if zone < 0 {
			sign, zone = '-', -zone
		}
		fmt.Fprintf(&b, "<%s> %d %c%02d%02d\n", x.who.Email, x.who.When, sign, zone/60, zone%60)
	}
	b.WriteString("\n" + c.Text)
	return b.Bytes()
}

// valid is what the chapter says of a record.
func valid(c api.Record) bool {
	seen := map[api.Id]int{{}: 1}
	for _, p := range c.Parents {
		seen[p]++
	}
	for _, n := range seen {
		if n > 1 {
			return false
		}
	}
	return c.Tree != api.Id{} && len(c.Parents) <= 16 && ident.Right(c.Author) && ident.Right(c.Committer) && !strings.Contains(c.Text, "\x00") && len(c.Text) <= 32768
}

var (
	form       = regexp.MustCompile(`^tree ([0-9a-f]{40})\n((?:parent [0-9a-f]{40}\n)*)author ([^\n]*)\ncommitter ([^\n]*)\n\n`)
	parentForm = regexp.MustCompile(`[0-9a-f]{40}`)
)

// idFrom reads 40 digits.
func idFrom(s string) api.Id {
	b, err := hex.DecodeString(s)
	if err != nil {
		panic(err)
	}
	return api.Id(b)
}

// parsed is what the chapter says of Parse; false: no record.
func parsed(b []byte) (api.Record, bool) {
	m := form.FindStringSubmatch(string(b))
	if m == nil {
		return api.Record{}, false
	}
	c := api.Record{Tree: idFrom(m[1]), Text: string(b[len(m[0]):])}
	for _, p := range parentForm.FindAllString(m[2], -1) {
		c.Parents = append(c.Parents, idFrom(p))
	}
	author, err := ident.Parse(m[3])
	if err != api.OK {
		return api.Record{}, false
	}
	committer, err := ident.Parse(m[4])
	if err != api.OK {
		return api.Record{}, false
	}
	c.Author, c.Committer = author, committer
	return c, valid(c)
}

// same tells whether two records are equal, as R9 says.
func same(a, b api.Record) bool {
	return a.Tree == b.Tree && slices.Equal(a.Parents, b.Parents) && a.Author == b.Author && a.Committer == b.Committer && a.Text == b.Text
}

// told tells a record for a message.
func told(c api.Record) string {
	return fmt.Sprintf("tree %x, %d parents %.6x, %.40q, %.40q, %d bytes %.40q", c.Tree[:3], len(c.Parents), c.Parents, fmt.Sprint(c.Author), fmt.Sprint(c.Committer), len(c.Text), c.Text)
}

// printed expects that a record is valid and goes through Print and Parse.
func printed(t *testing.T, c api.Record) {
	t.Helper()
	if !commit.Right(c) || !valid(c) {
		t.Errorf("Right of %s: false", told(c))
	}
	b, err := commit.Print(c)
	if err != api.OK || !bytes.Equal(b, encoded(c)) {
		t.Errorf("Print of %s: %.400q, error %d; want %.400q", told(c), b, err, encoded(c))
	}
	if back, err := commit.Parse(b); err != api.OK || !same(back, c) {
		t.Errorf("Parse of %.400q: %s, error %d; want %s", b, told(back), err, told(c))
	}
}

// barred expects that a record is not valid, and its encoding that of none.
func barred(t *testing.T, c api.Record) {
	t.Helper()
	if commit.Right(c) || valid(c) {
		t.Errorf("Right of %s: true", told(c))
	}
	if b, err := commit.Print(c); err != api.ErrForm || len(b) != 0 {
		t.Errorf("Print of %s: %d bytes, error %d; want ErrForm alone", told(c), len(b), err)
	}
	refused(t, string(encoded(c)))
}

// refused expects ErrForm of Parse and nothing beside it.
func refused(t *testing.T, s string) {
	t.Helper()
	if c, err := commit.Parse([]byte(s)); err != api.ErrForm || !same(c, api.Record{}) {
		t.Errorf("Parse of %d bytes %.400q: %s, error %d; want the zero record and ErrForm", len(s), s, told(c), err)
	}
}

// taken expects that Parse takes a text, and that Print makes the same of it.
func taken(t *testing.T, s string, want api.Record) {
	t.Helper()
	c, err := commit.Parse([]byte(s))
	if err != api.OK || !same(c, want) {
		t.Errorf("Parse of %d bytes %.400q: %s, error %d; want %s", len(s), s, told(c), err, told(want))
		return
	}
	if again, err := commit.Print(c); err != api.OK || string(again) != s || !commit.Right(c) {
		t.Errorf("Parse of %.400q is a record that Print makes %.400q of, error %d", s, again, err)
	}
}

// hold holds what Parse answers against the chapter.
func hold(t *testing.T, s string) {
	t.Helper()
	if want, ok := parsed([]byte(s)); ok {
		taken(t, s, want)
	} else {
		refused(t, s)
	}
}

// P9.1: commits whose ids are known, byte by byte.
func TestKnownCommits(t *testing.T) {
	const (
		first  = "cc65b5e8b6ca2b1ed878e36b61ab9aeed925bef0"
		second = "8da6383f5c36b261370d7aeaef39dd6974ef9314"
		file   = "496d6428b9cf92981dc9495211e6e1120fb6f2ba"
	)
	for _, r := range []struct {
		c        api.Record
		want, id string
	}{
		{api.Record{Tree: idFrom(empty), Author: alice, Committer: alice, Text: "x\n"},
			"tree " + empty + "\nauthor A <a@b> 5 -0130\ncommitter A <a@b> 5 -0130\n\nx\n", first},
		{api.Record{Tree: idFrom(empty)},
			"tree " + empty + "\nauthor <> 0 +0000\ncommitter <> 0 +0000\n\n", "fb14cd1fe096931843f916e6a4c0685b24ffe601"},
		{api.Record{Tree: idFrom(empty), Parents: []api.Id{idFrom(first)}, Author: api.Ident{Name: "A B", Email: "a b", When: 1099511627775, Zone: 840}, Committer: api.Ident{Name: "é", When: 1, Zone: -1}, Text: "\nx\xff\n\n"},
			"tree " + empty + "\nparent " + first + "\nauthor A B <a b> 1099511627775 +1400\ncommitter é <> 1 -0001\n\n\nx\xff\n\n", second},
		{api.Record{Tree: idFrom(file), Parents: []api.Id{idFrom(second), idFrom(first)}, Author: alice, Committer: api.Ident{Name: "C", Email: "c", When: 6, Zone: 120}, Text: "parent " + second + "\n"},
			"tree " + file + "\nparent " + second + "\nparent " + first + "\nauthor A <a@b> 5 -0130\ncommitter C <c> 6 +0200\n\nparent " + second + "\n", "2751677c388a33f3b48bbf0d48f7bf493ed049ac"},
	} {
		b, err := commit.Print(r.c)
		if err != api.OK || string(b) != r.want {
			t.Errorf("Print of %s: %q, error %d; want %q", told(r.c), b, err, r.want)
		}
		if id := object.Id(api.Object{Kind: api.Commit, Body: b}); id != idFrom(r.id) {
			t.Errorf("Print of %s has the id %x; want %s", told(r.c), id, r.id)
		}
		taken(t, r.want, r.c)
		printed(t, r.c)
	}
}

// P9.1: the example of the chapter.
func TestLinesWithoutParents(t *testing.T) {
	for _, text := range []string{"", "x"} {
		b, err := commit.Print(api.Record{Tree: idOf(1), Author: alice, Committer: alice, Text: text})
		if l := strings.Split(string(b), "\n"); err != api.OK || len(l) != 5 || l[3] != "" || l[4] != text {
			t.Errorf("Print of a record without parents: %q, error %d", b, err)
		}
	}
}

// P9.1: a zero tree, and trees that are nearly so.
func TestTree(t *testing.T) {
	barred(t, api.Record{})
	for _, n := range []int{0, 1, 2, api.MaxParents} {
		c := with(ids(n)...)
		printed(t, c)
		c.Tree = api.Id{}
		barred(t, c)
		for i := range len(c.Tree) {
			c.Tree = nearlyZero(i)
			printed(t, c)
		}
	}
}

// P9.1: each number of parents up to the limit, some beyond it, and many.
func TestNumberOfParents(t *testing.T) {
	for n := range api.MaxParents + 1 {
		c := with(ids(n)...)
		printed(t, c)
		b, _ := commit.Print(c)
		if got := strings.Count(string(b), "\nparent "); got != n {
			t.Errorf("Print of %d parents: %d of them", n, got)
		}
		slices.Reverse(c.Parents)
		printed(t, c)
	}
	for _, n := range []int{api.MaxParents + 1, api.MaxParents + 2, 2 * api.MaxParents, 256, 257, 65536 + 1} {
		barred(t, with(ids(n)...))
	}
	barred(t, with(make([]api.Id, 1<<20)...))
	c := with()
	c.Parents = []api.Id{}
	printed(t, c)
}

// P9.1: a zero parent at each place, and parents that are nearly so.
func TestZeroParent(t *testing.T) {
	for _, n := range []int{1, 2, 3, 5, api.MaxParents} {
		for i := range n {
			c := with(ids(n)...)
			c.Parents[i] = api.Id{}
			barred(t, c)
			for k := range len(c.Parents[i]) {
				c.Parents[i] = nearlyZero(k)
				printed(t, c)
			}
		}
	}
	barred(t, with(api.Id{}, api.Id{}))
}

// P9.1: two equal parents at each two places, side by side and apart, and such
// as differ in one byte.
func TestEqualParents(t *testing.T) {
	for _, n := range []int{2, 3, 4, api.MaxParents} {
		for i := range n {
			for k := range i {
				c := with(ids(n)...)
				c.Parents[i] = c.Parents[k]
				barred(t, c)
				for at := range len(c.Parents[i]) {
					c.Parents[i] = c.Parents[k]
					c.Parents[i][at] ^= 0x40
					printed(t, c)
				}
			}
		}
	}
	c := with(idOf(1), idOf(2), idOf(2), idOf(1))
	barred(t, c)
	c.Parents = []api.Id{idOf(1), idOf(1), idOf(1)}
	barred(t, c)
}

// P9.1: a parent of the tree's id is none of the errors.
func TestParentAsTree(t *testing.T) {
	c := with(idOf(1), idOf(2))
	c.Tree = idOf(2)
	printed(t, c)
	c.Tree = idOf(1)
	printed(t, c)
}

// P9.1: the parents stay in their order.
func TestOrderOfParents(t *testing.T) {
	a, b, c := idOf(1), idOf(2), idOf(3)
	for _, l := range [][]api.Id{{a, b, c}, {a, c, b}, {b, a, c}, {b, c, a}, {c, a, b}, {c, b, a}} {
		printed(t, with(l...))
	}
}

// P9.1: authors and committers, valid ones and others.
func TestIdents(t *testing.T) {
	for _, x := range goodIdents {
		for _, y := range goodIdents {
			c := with(idOf(1))
			c.Author, c.Committer = x, y
			printed(t, c)
		}
	}
	for _, x := range badIdents {
		for _, y := range slices.Concat(goodIdents, badIdents[:3]) {
			c := with(idOf(1))
			c.Author, c.Committer = x, y
			if commit.Right(c) {
				t.Errorf("Right of the author %q: true", fmt.Sprint(x))
			}
			if b, err := commit.Print(c); err != api.ErrForm || len(b) != 0 {
				t.Errorf("Print of the author %q: %d bytes, error %d", fmt.Sprint(x), len(b), err)
			}
			hold(t, string(encoded(c)))
			c.Author, c.Committer = y, x
			if commit.Right(c) {
				t.Errorf("Right of the committer %q: true", fmt.Sprint(x))
			}
			if b, err := commit.Print(c); err != api.ErrForm || len(b) != 0 {
				t.Errorf("Print of the committer %q: %d bytes, error %d", fmt.Sprint(x), len(b), err)
			}
			hold(t, string(encoded(c)))
		}
	}
}

// P9.1: texts, valid ones and others, with and without parents.
func TestTexts(t *testing.T) {
	for _, n := range []int{0, 2, api.MaxParents} {
		c := with(ids(n)...)
		for _, c.Text = range goodTexts {
			printed(t, c)
		}
		for _, c.Text = range badTexts {
			barred(t, c)
		}
	}
}

// P9.1: each byte as a text, and at the front, in the midst and at the end of one.
func TestTextOfEachByte(t *testing.T) {
	for i := range 256 {
		b := string([]byte{byte(i)})
		for _, text := range []string{b, b + "x", "x" + b, "x" + b + "y", "é" + b, b + "\n", "\n" + b} {
			c := plain()
			c.Text = text
			if i == 0 {
				barred(t, c)
			} else {
				printed(t, c)
			}
		}
	}
}

// P9.1: a byte 0 at each place of a text.
func TestZeroByteAtEachPlace(t *testing.T) {
	for _, n := range []int{1, 2, 7, 8, 9, 63, 64, 65} {
		for i := range n {
			b := bytes.Repeat([]byte("\n"), n)
			b[i] = 0
			c := plain()
			c.Text = string(b)
			barred(t, c)
		}
	}
}

// P9.1: the greatest record there is has an encoding that an object may have.
func TestGreatestRecord(t *testing.T) {
	c := with(ids(api.MaxParents)...)
	c.Author, c.Committer = goodIdents[len(goodIdents)-1], goodIdents[len(goodIdents)-1]
	c.Text = strings.Repeat("\xff", api.MaxBody/2)
	printed(t, c)
	b, _ := commit.Print(c)
	if _, err := object.Print(api.Object{Kind: api.Commit, Body: b}); err != api.OK {
		t.Errorf("an object of %d bytes: error %d", len(b), err)
	}
	c.Parents = append(c.Parents, idOf(100))
	barred(t, c)
	c.Parents, c.Text = c.Parents[:api.MaxParents], c.Text+"x"
	barred(t, c)
}

// P9.1: records that may not be for more than one reason.
func TestManyFaults(t *testing.T) {
	faults := []func(c *api.Record){
		func(c *api.Record) { c.Tree = api.Id{} },
		func(c *api.Record) { c.Parents = ids(api.MaxParents + 1) },
		func(c *api.Record) { c.Parents = append(c.Parents, api.Id{}) },
		func(c *api.Record) { c.Author.Zone = api.MaxZone + 1 },
		func(c *api.Record) { c.Committer.When = api.MaxWhen + 1 },
		func(c *api.Record) { c.Text += "\x00" },
		func(c *api.Record) { c.Text += strings.Repeat("x", api.MaxBody/2) },
	}
	for set := 1; set < 1<<len(faults); set++ {
		c := with(idOf(1))
		for i, fault := range faults {
			if set>>i&1 == 1 {
				fault(&c)
			}
		}
		barred(t, c)
	}
}

// P9.1: ids of fewer or more digits, of other ones, of none, and zero ones.
func TestIdsOfHeaders(t *testing.T) {
	const id = "a0b1c2d3e4f5a6b7c8d9e0f1a2b3c4d5e6f7a8b9"
	taken(t, header(id, empty), api.Record{Tree: idFrom(id), Parents: []api.Id{idFrom(empty)}, Author: alice, Committer: bob})
	bad := []string{
		"", "a", "a0", zeroText, id[:39], id[1:], id[:38], id + "0", id + "00", id + id, id[:20], strings.ToUpper(id), "A" + id[1:], id[:39] + "B", strings.ToUpper(empty),
		" " + id, id + " ", " " + id[1:], id[:39] + " ", id + "\r", "\t" + id, "0x" + id[2:], "+" + id[1:], "-" + id[1:], id + "\x00", id[:39] + "\x00", id[:39] + "g", "g" + id[1:], id[:38] + "é", "é" + id[2:], id[:20] + " " + id[20:], id[:19] + " " + id[20:],
		id + " " + id, id + " x", "parent " + id, "tree " + id, string(bytes.Repeat([]byte{1}, 20)), strings.Repeat("\uff10", 40), strings.Repeat("z", 40), id + strings.Repeat("0", 1000),
	}
	for _, s := range bad {
		refused(t, header(s))
		refused(t, header(s, empty))
		refused(t, header(id, s))
		refused(t, header(id, empty, s))
		refused(t, header(id, s, empty))
		refused(t, header(id, idText(1), s, idText(2)))
	}
	for i := range id {
		for c := range 256 {
			s := id[:i] + string([]byte{byte(c)}) + id[i+1:]
			hold(t, header(s, empty))
			hold(t, header(empty, s))
		}
	}
}

func idText(n int) string {
	id := idOf(n)
	return hex.EncodeToString(id[:])
}

// P9.1: bytes that are no encoding, as one of the lines is another one.
func TestOtherLines(t *testing.T) {
	id, other := idText(1), idText(2)
	tree, parent, author, committer := "tree "+id+"\n", "parent "+other+"\n", "author "+aliceText+"\n", "committer "+bobText+"\n"
	want := api.Record{Tree: idOf(1), Parents: []api.Id{idOf(2)}, Author: alice, Committer: bob, Text: "x\n"}
	taken(t, tree+parent+author+committer+"\nx\n", want)
	for i, right := range []string{tree, parent, author, committer} {
		for _, line := range []string{
			strings.ToUpper(right[:1]) + right[1:], strings.ToUpper(right), strings.Replace(right, " ", "", 1), strings.Replace(right, " ", "  ", 1), strings.Replace(right, " ", "\t", 1), strings.Replace(right, " ", "\n", 1), strings.Replace(right, " ", ": ", 1), strings.Replace(right, " ", "s ", 1), strings.Replace(right, " ", "\x00", 1),
			right[1:], " " + right, "\n" + right, "\x00" + right, "x" + right, strings.TrimSuffix(right, "\n"), strings.TrimSuffix(right, "\n") + "\r\n", strings.TrimSuffix(right, "\n") + " \n", strings.TrimSuffix(right, "\n") + "\x00\n", right + " x\n", right + "encoding UTF-8\n", right + "gpgsig x\n y\n", right + "mergetag x\n", "encoding UTF-8\n" + right,
			"type commit\n", "tree\n", "parent\n", "author\n", "committer\n", "tree \n", "parent \n", "author \n", "committer \n", "x\n", "\n", " \n", "\r\n", right[:strings.Index(right, " ")] + "\n", right[:strings.Index(right, " ")+1] + "\n",
		} {
			lines := []string{tree, parent, author, committer}
			lines[i] = line
			refused(t, strings.Join(lines, "")+"\nx\n")
			refused(t, strings.Join(lines, "")+"\n")
		}
		lines := []string{tree, parent, author, committer}
		lines[i] += "\n" // behind the committer it is a text's
		hold(t, strings.Join(lines, "")+"\nx\n")
	}
}

// P9.1: all rows of up to six lines, so that each one lacks, stands twice and
// stands in another order; with an empty line behind them and without one.
func TestRowsOfLines(t *testing.T) {
	lines := []string{"tree " + idText(1) + "\n", "parent " + idText(2) + "\n", "parent " + idText(3) + "\n", "author " + aliceText + "\n", "committer " + bobText + "\n", "\n"}
	var walk func(s string, left int)
	walk = func(s string, left int) {
		hold(t, s)
		for _, l := range lines {
			if left > 0 {
				walk(s+l, left-1)
			}
		}
	}
	walk("", 6)
	walk(lines[0], 5)
	for _, text := range []string{"", "x", "\n"} {
		walk(lines[0]+lines[3]+lines[4]+"\n"+text, 2)
		walk(lines[0]+lines[1]+lines[3]+lines[4]+text, 2)
	}
}

// P9.1: authors and committers that are nearly right.
func TestIdentsOfHeaders(t *testing.T) {
	head := "tree " + idText(1) + "\n"
	for _, s := range []string{
		"", " ", "A", "A <a@b>", "A <a@b> 5", "A <a@b> 5 ", "A <a@b> -0130", "A <a@b>5 -0130", "A<a@b> 5 -0130", "A  <a@b> 5 -0130", " A <a@b> 5 -0130", " <a@b> 5 -0130", "A <a@b> 5  -0130", "A <a@b>  5 -0130", "A <a@b> 5 -0130 ", "A < a@b> 5 -0130", "A <a@b > 5 -0130", "A <<a@b> 5 -0130", "A <a@b>> 5 -0130", "A a@b 5 -0130",
		"A <a@b> 05 -0130", "A <a@b> +5 -0130", "A <a@b> -5 -0130", "A <a@b> 1099511627776 -0130", "A <a@b> x -0130", "A <a@b> 5 0130", "A <a@b> 5 -130", "A <a@b> 5 -0160", "A <a@b> 5 -0000", "A <a@b> 5 +1401", "A <a@b> 5 +1500", "A <a@b> 5 Z", "A <a@b> 5 -0130\r", "A\x00 <a@b> 5 -0130", "\xff <a@b> 5 -0130", strings.Repeat("a", api.MaxName+1) + " <a@b> 5 -0130", strings.Repeat("<", 1<<16),
	} {
		refused(t, head+"author "+s+"\ncommitter "+bobText+"\n\nx")
		refused(t, head+"author "+aliceText+"\ncommitter "+s+"\n\nx")
		refused(t, head+"author "+s+"\ncommitter "+s+"\n\nx")
	}
	for _, x := range goodIdents {
		s := ident.Print(x)
		taken(t, head+"author "+s+"\ncommitter "+bobText+"\n\nx", api.Record{Tree: idOf(1), Author: x, Committer: bob, Text: "x"})
		taken(t, head+"author "+aliceText+"\ncommitter "+s+"\n\nx", api.Record{Tree: idOf(1), Author: alice, Committer: x, Text: "x"})
	}
}

// P9.1: bytes that are far from what Print makes, long ones among them.
func TestParseRefuses(t *testing.T) {
	if c, err := commit.Parse(nil); err != api.ErrForm || !same(c, api.Record{}) {
		t.Errorf("Parse of nothing: %s, error %d", told(c), err)
	}
	head := header(idText(1))
	for _, s := range []string{"", "\n", "\n\n", "\x00", " ", "x", "tree", "tree ", "tree \n", "parent ", "\n" + head, " " + head, "\x00" + head, "\ufeff" + head, "commit 98\x00" + head, head[:len(head)-1], head + "\x00", head[:len(head)-1] + "x", head[:len(head)-1] + " \nx", strings.ReplaceAll(head, "\n", "\r\n"), strings.ReplaceAll(head, "\n", "\r"), strings.ReplaceAll(head, "\n", ""), strings.ToUpper(head)} {
		refused(t, s)
	}
	for _, s := range []string{"\n", "\x00", "x", "tree ", "parent ", "parent " + idText(2) + "\n", "tree " + idText(1) + "\n", "author " + aliceText + "\n", head} {
		long := strings.Repeat(s, 1+(1<<21)/len(s))
		refused(t, long)
		refused(t, "tree "+idText(1)+"\n"+long)
		refused(t, "tree "+idText(1)+"\nauthor "+long)
		refused(t, head+long)
		refused(t, header(idText(1), long))
	}
}

// P9.1: each prefix and each end of an encoding, and each byte left out, put in
// twice and turned into each other one.
func TestNearlyPrinted(t *testing.T) {
	short := api.Ident{Email: "a", Zone: 5}
	for _, c := range []api.Record{
		{Tree: idOf(1), Author: short, Committer: short, Text: "x\n"},
		{Tree: idOf(1), Parents: ids(2), Author: alice, Committer: short, Text: "\n\n"},
	} {
		s := string(encoded(c))
		printed(t, c)
		for i := range len(s) {
			hold(t, s[:i])
			hold(t, s[i:])
			hold(t, s[:i]+s[i+1:])
			for b := range 256 {
				one := string([]byte{byte(b)})
				hold(t, s[:i]+one+s[i+1:])
				hold(t, s[:i]+one+s[i:])
			}
		}
	}
}

// P9.1: each piece of an encoding left out, so that lines grow together.
func TestPiecesLeftOut(t *testing.T) {
	s := string(encoded(with(idOf(1))))
	for i := range len(s) + 1 {
		for j := i; j <= len(s); j++ {
			hold(t, s[:i]+s[j:])
		}
	}
}

// R3: what is handed in stays as it was, beyond its length too.
func TestArgumentsStay(t *testing.T) {
	l := ids(30)
	before := slices.Clone(l)
	for n := range len(l) {
		commit.Right(with(l[:n]...))
		commit.Print(with(l[:n]...))
	}
	b := append(encoded(with(ids(3)...)), "more of it, and more still"...)
	bytesBefore := bytes.Clone(b)
	for n := range len(b) {
		commit.Parse(b[:n])
	}
	if !slices.Equal(l, before) || !bytes.Equal(b, bytesBefore) {
		t.Error("what was handed in is not what it was")
	}
}

// R3: an answer is new memory and hangs on no argument.
func TestAnswersAreNew(t *testing.T) {
	l := ids(5)
	want := encoded(with(ids(5)...))
	first, _ := commit.Print(with(l...))
	second, _ := commit.Print(with(l...))
	clear(first[:cap(first)])
	clear(l)
	if !bytes.Equal(second, want) {
		t.Error("what Print answers is not its own")
	}
	one, _ := commit.Parse(second)
	two, _ := commit.Parse(second)
	clear(one.Parents[:cap(one.Parents)])
	clear(second)
	if !same(two, with(ids(5)...)) {
		t.Error("what Parse answers is not its own")
	}
}

// R2: what lies beyond what is handed in does not count.
func TestBeyondTheLength(t *testing.T) {
	printed(t, with([]api.Id{idOf(1), idOf(1), {}}[:1]...))
	printed(t, with(append(ids(api.MaxParents), idOf(100))[:api.MaxParents]...))
	c := plain()
	b := append(encoded(c), '\x00')
	if got, err := commit.Parse(b[:len(b)-1]); err != api.OK || !same(got, c) {
		t.Errorf("Parse of a piece: %s, error %d", told(got), err)
	}
	refused(t, string(b))
}

// R2: calls at the same time answer what they answer one by one.
func TestAtTheSameTime(t *testing.T) {
	var group sync.WaitGroup
	l := ids(40)
	for n := range 8 {
		group.Go(func() {
			for k := range api.MaxParents {
				printed(t, with(l[n:n+k]...))
				barred(t, with(l[n:n+k+api.MaxParents+1]...))
			}
		})
	}
	group.Wait()
}
