package change_test

import (
	"fmt"
	"slices"
	"strings"
	"testing"

	"trestle/api"
	"trestle/change"
)

// short are changes with short encodings.
func short() []api.Change {
	c := full()
	c.Text = ""
	return []api.Change{
		plain(),
		full(),
		c,
		{User: "u", Branch: "b"},
		{P1: two, Manifest: one, User: "é", When: api.MaxWhen, Zone: -840, Branch: "b", Extras: []api.Extra{{Key: "k", Value: "é"}}, Text: "\n\n"},
		{P1: two, P2: one, User: "0 0", Zone: 840, Branch: "a", Copies: []api.Copy{{From: "a", To: "b"}}, Text: "copy 61 63\n"},
	}
}

// P17.1: an encoding that is cut is one only if all its lines are left.
func TestCut(t *testing.T) {
	for _, c := range short() {
		b := encoded(c)
		head := len(b) - len(c.Text)
		for n := range len(b) + 1 {
			if holdParse(t, b[:n], c.P1, c.P2) != (n >= head) {
				t.Errorf("Parse of the first %d bytes of %q: not %t", n, b, n >= head)
			}
			holdParse(t, b[n:], c.P1, c.P2)
		}
	}
	c := sized(t, api.MaxBody)
	b := encoded(c)
	for n := 0; n < len(b); n += 997 {
		holdParse(t, b[:n], c.P1, c.P2)
	}
}

// P17.1: an encoding with a byte more behind it is another change's, unless it
// is a byte 0 or there is no room.
func TestByteBehind(t *testing.T) {
	for _, c := range append(short(), sized(t, api.MaxBody), with(func(c *api.Change) { c.Text = strings.Repeat("x", api.MaxBody/2) })) {
		b := encoded(c)
		for n := range 256 {
			right := n != 0 && len(c.Text) < 100
			if holdParse(t, append(slices.Clone(b), byte(n)), c.P1, c.P2) != right {
				t.Errorf("Parse of %d bytes %.200q and the byte %d: not %t", len(b), b, n, right)
			}
		}
	}
}

// P17.1: an encoding with each byte put in, taken out or turned at each place
// is taken only if it is another change's.
func TestTurned(t *testing.T) {
	taken, refused := 0, 0
	count := func(b []byte, c api.Change) {
		if holdParse(t, b, c.P1, c.P2) {
			taken++
		} else {
			refused++
		}
	}
	for _, c := range short() {
		b := encoded(c)
		for i := range b {
			for n := range 256 {
				count(slices.Insert(slices.Clone(b), i, byte(n)), c)
				turned := slices.Clone(b)
				turned[i] = byte(n)
				count(turned, c)
			}
			count(slices.Delete(slices.Clone(b), i, i+1), c)
		}
	}
	if taken < 5000 || refused < 5000 {
		t.Errorf("%d texts are taken, %d refused: the test is none", taken, refused)
	}
}

// P17.1: any piece of an encoding left out.
func TestPiecesLeftOut(t *testing.T) {
	for _, c := range short() {
		b := encoded(c)
		for i := range b {
			for j := i + 1; j <= len(b); j++ {
				holdParse(t, slices.Delete(slices.Clone(b), i, j), c.P1, c.P2)
			}
		}
	}
}

// lines are those of the encoding of the full change, its text among them.
func lines() []string {
	return slices.Collect(strings.Lines(string(encoded(full()))))
}

// P17.1: the lines of an encoding stand in their order, each of them once.
func TestLines(t *testing.T) {
	head := len(lines()) - 2
	refused := func(l []string) {
		t.Helper()
		if b := []byte(strings.Join(l, "")); holdParse(t, b, one, two) {
			t.Errorf("Parse takes %q", b)
		}
	}
	holds := func(l []string) {
		t.Helper()
		holdParse(t, []byte(strings.Join(l, "")), one, two)
	}
	for i := range head + 1 {
		missing := slices.Delete(lines(), i, i+1)
		if i < 4 || i == head {
			refused(missing)
		}
		holds(missing)
		for j := range head + 1 {
			if i == j {
				continue
			}
			// The empty line may come earlier: what follows is the text then.
			swapped := lines()
			swapped[i], swapped[j] = swapped[j], swapped[i]
			if max(i, j) < head || min(i, j) < 4 {
				refused(swapped)
			}
			holds(swapped)
			holds(slices.Insert(slices.Clone(missing), j, lines()[i]))
			twice := slices.Insert(lines(), j, lines()[i])
			if j < head && i < head {
				refused(twice)
			}
			holds(twice)
		}
		refused(slices.Insert(lines(), i, " \n"))
		refused(slices.Insert(lines(), i, "\x00\n"))
		refused(slices.Insert(lines(), i, "other\n"))
		refused(slices.Insert(lines(), i, "parent "+zeroText+"\n"))
		if holdParse(t, []byte(strings.Join(slices.Insert(lines(), i, "\n"), "")), one, two) != (i >= 4) {
			t.Errorf("Parse of the lines with an empty one at the place %d: not %t", i, i >= 4)
		}
		if i < head {
			twice := lines()
			twice[i] += twice[i]
			refused(twice)
		}
		for _, end := range []string{"", "\r\n", " \n", "\x00\n", "\n\r", "\x00"} {
			turned := lines()
			turned[i] = strings.TrimSuffix(turned[i], "\n") + end
			holds(turned)
		}
	}
}

// P17.1: all rows of up to five lines behind the first four ones.
func TestRows(t *testing.T) {
	start := zeroText + "\nu\n0 0\nbranch b\n"
	pieces := []string{"extra a 61\n", "extra b \n", "copy 61 62\n", "copy 61 63\n", "\n", "x\n", "branch b\n", "extra\n", "copy\n"}
	rows, taken := []string{start}, 0
	for range 5 {
		var next []string
		for _, row := range rows {
			for _, piece := range pieces {
				next = append(next, row+piece)
			}
		}
		rows = next
		for _, row := range rows {
			if holdParse(t, []byte(row), api.Id{}, api.Id{}) {
				taken++
			}
		}
	}
	if taken < 5000 {
		t.Errorf("%d rows are taken: the test is none", taken)
	}
}

// line is an encoding with a line turned: 0 is that of the manifest.
func line(n int, s string) []byte {
	l := strings.Split(zeroText+"\nu\n0 0\nbranch b\nextra a 61\ncopy 61 62\n\ntext", "\n")
	l[n] = s
	return []byte(strings.Join(l, "\n"))
}

// check expects that an encoding with a line turned is taken, or is not.
func check(t *testing.T, n int, s string, right bool) {
	t.Helper()
	if holdParse(t, line(n, s), one, two) != right {
		t.Errorf("Parse of %q: not %t", line(n, s), right)
	}
}

// P17.1: the words of the lines.
func TestWords(t *testing.T) {
	for _, r := range []struct {
		n    int
		word string
		rest string
	}{{3, "branch", "b"}, {4, "extra", "a 61"}, {5, "copy", "61 62"}} {
		check(t, r.n, r.word+" "+r.rest, true)
		for _, s := range []string{
			r.rest, " " + r.rest, r.word, r.word + " ", r.word + r.rest, r.word + "  " + r.rest, r.word + "\t" + r.rest, r.word + "\x00" + r.rest, r.word + ":" + r.rest, r.word + ": " + r.rest, r.word + "\r " + r.rest, r.word + "\u00a0" + r.rest,
			" " + r.word + " " + r.rest, strings.ToUpper(r.word) + " " + r.rest, strings.ToUpper(r.word[:1]) + r.word[1:] + " " + r.rest, r.word[1:] + " " + r.rest, r.word[:3] + " " + r.rest, r.word + "s " + r.rest, r.word + " " + r.word + " " + r.rest, "parent " + r.rest, "é " + r.rest, "\ufeff" + r.word + " " + r.rest, "\xff" + r.word + " " + r.rest,
		} {
			check(t, r.n, s, false)
		}
	}
	for _, words := range [][2]string{{"branch", "extra"}, {"extra", "copy"}, {"copy", "extra"}, {"extra", "branch"}, {"copy", "branch"}} {
		b := []byte(strings.Replace(string(line(1, "u")), words[0]+" ", words[1]+" ", 1))
		if holdParse(t, b, one, two) {
			t.Errorf("Parse takes %q", b)
		}
	}
}

// P17.1: the manifest's id has 40 digits, none of them in capitals.
func TestManifestLines(t *testing.T) {
	for n := range 100 {
		check(t, 0, strings.Repeat("0", n), n == 40)
		check(t, 0, strings.Repeat("a", n), n == 40)
		check(t, 0, strings.Repeat("A", n), false)
		check(t, 0, strings.Repeat("g", n), false)
	}
	for i := range 40 {
		for n := range 256 {
			b := string([]byte{byte(n)})
			check(t, 0, none[:i]+b+none[i+1:], strings.Contains("0123456789abcdef", b))
		}
	}
	for _, s := range []string{strings.ToUpper(none), "E" + none[1:], none[:39] + "F", "+" + none[1:], "-" + none[1:], "0x" + none[2:], none[:39] + "é", " " + none, none + " ", none + "\r", none + "\x00", "\"" + none + "\"", "manifest " + none} {
		check(t, 0, s, false)
	}
}

// P17.1: the numbers are written as hexa.Number writes them, with one space
// between them.
func TestNumbers(t *testing.T) {
	for _, s := range []string{"0 0", "5 -90", "1 1", "1099511627775 840", "1099511627775 -840", "10 100", "9 -9", "1099511627774 839"} {
		check(t, 2, s, true)
	}
	odd := []string{
		"", "+0", "+1", "-0", "00", "01", "007", "-01", "-00", " 0", "0 ", "  1", "1.0", "1.", ".1", "1e1", "0x1", "0b1", "0o1", "1_0", "1,0", "a", "A", "f", "-", "+", "--1", "+-1", "-+1", "1-", "1+", "１", "٣", "é", "\xff", "0\x00", "\x000", "0\t", "\t0", "0\r", "\"0\"", "zero", "null",
		"9223372036854775807", "9223372036854775808", "-9223372036854775808", "-9223372036854775809", "18446744073709551615", "18446744073709551616", "18446744073709551621", "4294967296000000000000", "99999999999999999999999999999999999999", "-99999999999999999999999999999999999999",
		"340282366920938463463374607431768211456", strings.Repeat("0", 100), strings.Repeat("9", 5000), "-" + strings.Repeat("9", 5000),
	}
	for _, s := range odd {
		check(t, 2, s+" 0", false)
		check(t, 2, "0 "+s, false)
		check(t, 2, s+" "+s, false)
	}
	for _, s := range []string{"-1", "1099511627776", "1099511627777", "2199023255552", "-1099511627775"} {
		check(t, 2, s+" 0", false)
	}
	for _, s := range []string{"841", "-841", "1000", "4294967296", "4294967386", "-4294967296", "-4294967206", "65536", "65626", "1099511627775"} {
		check(t, 2, "0 "+s, false)
	}
	for _, s := range []string{"0", "00", "0  0", "0\t0", " 0 0", "0 0 ", "0 0 0", "0 0 default", "0,0", "0-0", "0+0", "0\x000", "0\u00a00", "0 +0000", "5 -0130", "0 0\r", "date 0 0", "0\n0", "\n0 0"} {
		check(t, 2, s, false)
	}
	for when := range int64(300) {
		for _, zone := range []int{-840, -1, 0, 1, 99, 840} {
			check(t, 2, fmt.Sprintf("%d %d", when, zone), true)
			check(t, 2, fmt.Sprintf("%02d %d", when, zone), when > 9)
			check(t, 2, fmt.Sprintf("%d %+d", when, zone), zone < 0)
			check(t, 2, fmt.Sprintf("%d %04d", when, zone), zone == -840)
			letters := fmt.Sprintf("%x %d", when, zone)
			check(t, 2, letters, !strings.ContainsAny(letters, "abcdef"))
		}
	}
}

// P17.1: a value and a path are told by digits, two for each byte, none of them
// in capitals.
func TestDigits(t *testing.T) {
	for _, s := range []string{"61", "0a", "ff", "6162", "c3a9", "20", "5c", "ed9fbf"} {
		check(t, 4, "extra a "+s, true)
	}
	check(t, 4, "extra a ", true)
	for _, s := range []string{"c3a9", "6162", "20", "2d", "612f62"} {
		check(t, 5, "copy "+s+" 7a", true)
		check(t, 5, "copy 7a "+s, true)
	}
	odd := []string{
		"00", "6100", "0", "6", "616", "61626", "g", "gg", "6g", "g6", "x", "a", "0A", "C3A9", "c3A9", "FF", "6F", "6 1", " 61", "61 ", "61 62 63", "0x61", "%61", "\\x61", "\"61\"", "\"a\"", "'61'", "6\t", "61\r", "61\x00", "\x0061", "+1", "-1", "é", "éé", "６１", "\xff\xff", "61\xff", "61\xff\xff", "YQ==", "a b",
	}
	for _, s := range odd {
		check(t, 4, "extra a "+s, false)
		check(t, 5, "copy "+s+" 7a", false)
		check(t, 5, "copy 7a "+s, false)
	}
	for _, s := range []string{"", "ff", "c3", "0a", "610a", "2e", "2e2e", "2e676974", "2e474954", "2f", "2f61", "612f", "612f2f62", "eda080", "7a"} {
		check(t, 5, "copy "+s+" 7a", false)
		check(t, 5, "copy 7a "+s, false)
	}
	for _, s := range []string{"copy", "copy ", "copy  ", "copy 61", "copy 61 ", "copy  61", "copy 6162", "copy 61\t62", "copy 61 61", "copy 61 62 ", "copy 61  62", "copy  61 62", "copy 61 62 63", "copy 61 62 x", "copy a b", "copy 61,62"} {
		check(t, 5, s, false)
	}
	for _, s := range []string{"extra", "extra ", "extra  ", "extra a", "extra a61", "extra  61", "extra a  61", "extra  a 61", "extra a 61 ", "extra a 61 62", "extra a\t61", "extra A 61", "extra 1 61", "extra aB 61", "extra a_ 61", "extra é 61", "extra a\x00 61", "extra a\xff 61", "extra \"a\" 61", "extra a:61", "extra a=61", "extra 61 61"} {
		check(t, 4, s, false)
	}
}

// P17.1: what no change may have is not read, whatever stands beside it.
func TestParseRefuses(t *testing.T) {
	for _, c := range []api.Change{
		withExtras("b", "a"), withExtras("a", "a"), withExtras(numbered(41)...), withExtras(numbered(1000)...), withKey(""), withKey("A"), withKey(strings.Repeat("x", 41)), withValue("\x00"), withValue(strings.Repeat("x", 8193)),
		withCopies("b", "a"), withCopies("a", "a"), withCopies(numbered(501)...), withCopies(numbered(1000)...), withCopy("a", "a"), withCopy("", "a"), withCopy("a", ""), withCopy("a\n", "a"), withCopy("a", "a\n"), withCopy("\n", "\n"), withCopy("a\x00", "a"), withCopy("a", "\xff"), withCopy("a", ".git"),
		with(func(c *api.Change) { c.User = "" }), with(func(c *api.Change) { c.User = "\x00" }), with(func(c *api.Change) { c.User = "\xff" }), with(func(c *api.Change) { c.User = strings.Repeat("x", 401) }),
		with(func(c *api.Change) { c.When = -1 }), with(func(c *api.Change) { c.When = api.MaxWhen + 1 }), with(func(c *api.Change) { c.Zone = -841 }), with(func(c *api.Change) { c.Zone = 841 }),
		with(func(c *api.Change) { c.Branch = "" }), with(func(c *api.Change) { c.Branch = "-a" }), with(func(c *api.Change) { c.Branch = "a b" }), with(func(c *api.Change) { c.Branch = "a\x00" }), with(func(c *api.Change) { c.Branch = strings.Repeat("x", 190) }),
		with(func(c *api.Change) { c.Text = "\x00" }), with(func(c *api.Change) { c.Text = strings.Repeat("x", 32769) }), sized(t, 65537), with(func(c *api.Change) { c.P1, c.P2 = one, one }), with(func(c *api.Change) { c.P2 = one }),
	} {
		refuse(t, c)
		if b := encoded(c); holdParse(t, b, c.P1, c.P2) {
			t.Errorf("Parse takes %.400q", b)
		}
	}
	for _, b := range [][]byte{nil, {}, []byte("\n"), []byte("\n\n\n\n\n"), []byte("\x00"), []byte(zeroText), []byte(strings.Repeat("\n", 70000)), make([]byte, 65536), make([]byte, 1<<20), []byte(strings.Repeat("extra a 61\n", 10000))} {
		if holdParse(t, b, api.Id{}, api.Id{}) {
			t.Errorf("Parse takes %d bytes %.200q", len(b), b)
		}
	}
}

// P17.1: the parents that Parse is given are those of the change.
func TestParseParents(t *testing.T) {
	for _, c := range short() {
		b := encoded(c)
		for _, p := range [][2]api.Id{{}, {one}, {two}, {one, two}, {two, one}, {{19: 1}, {18: 1}}} {
			back, err := change.Parse(b, p[0], p[1])
			c.P1, c.P2 = p[0], p[1]
			if err != api.OK || !same(back, c) {
				t.Errorf("Parse with the parents %x: %s, error %d; want %s", p, told(back), err, told(c))
			}
		}
		for _, p := range [][2]api.Id{{one, one}, {two, two}, {{}, one}, {{}, two}, {{}, {10: 1}}} {
			if back, err := change.Parse(b, p[0], p[1]); err != api.ErrForm || !same(back, api.Change{}) {
				t.Errorf("Parse with the parents %x: %s, error %d; want error %d", p, told(back), err, api.ErrForm)
			}
		}
	}
}
