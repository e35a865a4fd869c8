package ident_test

import (
	"fmt"
	"math"
	"regexp"
	"strconv"
	"strings"
	"sync"
	"testing"
	"unicode/utf8"

	"trestle/api"
	"trestle/ident"
)

// person is a valid ident that the tests turn in one place each.
var person = api.Ident{Name: "A", Email: "a@b", When: 5, Zone: -90}

const personText = "A <a@b> 5 -0130"

// rightTexts are texts that may be a Name or an Email.
func rightTexts() []string {
	return []string{
		"", "a", "a b", "a  b", "é b", "\t", "\ta\t", "\r", "a\x7f", "\x01", "+", "-", "()", "a@b.c", "0 +0000", "\u00a0", "\u3000a\u3000", "\ufffd", "\ufeffa",
		"\U0010ffff", "\u2028", "e\u0301", `"`, `\`, "/", "\u2039\u203a", strings.Repeat("a", api.MaxName), strings.Repeat("é", api.MaxName/2), "a" + strings.Repeat(" ", api.MaxName-2) + "b",
	}
}

// wrongTexts are texts that may be neither.
func wrongTexts() []string {
	l := []string{
		" ", "  ", " a", "a ", " a ", "\xff", "a\xc3", "\xa9", "\xc3 \xa9", "\xc0\x80", "\xed\xa0\x80", "\xf4\x90\x80\x80", "\xef\xbf", "\xef\xbf\xbd\xff", "\xe2\x82", "a\xf0\x9f\x98",
		strings.Repeat("a", api.MaxName+1), strings.Repeat("é", api.MaxName/2) + "a", strings.Repeat("a", api.MaxName-1) + "é", strings.Repeat("a", 5000),
	}
	for _, c := range []string{"\x00", "\n", "<", ">"} {
		l = append(l, c, c+"a", "a"+c, "a"+c+"b", "é"+c, c+c)
	}
	return l
}

// mayBe is what the chapter says of a Name and an Email, by other means than
// the package's.
func mayBe(s string) bool {
	return len(s) <= api.MaxName && utf8.ValidString(s) && !strings.ContainsAny(s, "\x00\n<>") && !strings.HasPrefix(s, " ") && !strings.HasSuffix(s, " ")
}

// valid is what the chapter says of an ident.
func valid(i api.Ident) bool {
	return mayBe(i.Name) && mayBe(i.Email) && i.When >= 0 && i.When < 1<<40 && i.Zone >= -840 && i.Zone <= 840
}

// printed is what the chapter says of Print.
func printed(i api.Ident) string {
	if !valid(i) {
		return ""
	}
	minutes, sign := i.Zone, '+'
	if minutes < 0 {
		minutes, sign = -minutes, '-'
	}
	s := fmt.Sprintf("<%s> %d %c%02d%02d", i.Email, i.When, sign, minutes/60, minutes%60)
	if i.Name != "" {
		s = i.Name + " " + s
	}
	return s
}

var (
	identForm = regexp.MustCompile(`(?s)^(?:(.+) )?<(.*)> (0|[1-9][0-9]{0,12}) ([+-][0-9]{4})$`)
	zoneForm  = regexp.MustCompile(`^([+-])([0-1][0-9])([0-5][0-9])$`)
)

// zoned is what the chapter says of Zone; false: no zone.
func zoned(s string) (int, bool) {
	m := zoneForm.FindStringSubmatch(s)
	if m == nil || s == "-0000" {
		return 0, false
	}
	hours, _ := strconv.Atoi(m[2])
	minutes, _ := strconv.Atoi(m[3])
	zone := hours*60 + minutes
	if m[1] == "-" {
		zone = -zone
	}
	return zone, zone >= -840 && zone <= 840
}

// parsed is what the chapter says of Parse; false: no ident.
func parsed(s string) (api.Ident, bool) {
	m := identForm.FindStringSubmatch(s)
	if m == nil {
		return api.Ident{}, false
	}
	zone, ok := zoned(m[4])
	when, _ := strconv.ParseInt(m[3], 10, 64)
	i := api.Ident{Name: m[1], Email: m[2], When: when, Zone: zone}
	return i, ok && valid(i)
}

// holdIdent holds what the calls answer for an ident against the chapter.
func holdIdent(t *testing.T, i api.Ident) {
	t.Helper()
	want := printed(i)
	if got := ident.Right(i); got != valid(i) {
		t.Errorf("Right(%+v): %t", i, got)
	}
	got := ident.Print(i)
	if got != want {
		t.Errorf("Print(%+v): %q; want %q", i, got, want)
	}
	if want == "" {
		return
	}
	if back, err := ident.Parse(got); err != api.OK || back != i {
		t.Errorf("Parse(%q): %+v, error %d; want %+v", got, back, err, i)
	}
}

// holdText holds what Parse answers for a text against the chapter.
func holdText(t *testing.T, s string) {
	t.Helper()
	want, ok := parsed(s)
	got, err := ident.Parse(s)
	if !ok && (err != api.ErrForm || got != (api.Ident{})) {
		t.Errorf("Parse(%q): %+v, error %d; want the zero ident and ErrForm", s, got, err)
	}
	if ok && (err != api.OK || got != want) {
		t.Errorf("Parse(%q): %+v, error %d; want %+v", s, got, err, want)
	}
	if err == api.OK && ident.Print(got) != s {
		t.Errorf("Parse(%q) is %+v, which Print tells as %q", s, got, ident.Print(got))
	}
}

// P6.1: known idents, byte by byte.
func TestKnownIdents(t *testing.T) {
	for s, i := range map[string]api.Ident{
		personText:                  person,
		"<> 0 +0000":                {},
		"<a@b> 0 +0000":             {Email: "a@b"},
		"A <> 0 +0000":              {Name: "A"},
		"A B  C <d e> 17 +0100":     {Name: "A B  C", Email: "d e", When: 17, Zone: 60},
		"é <ü> 1 -0001":             {Name: "é", Email: "ü", When: 1, Zone: -1},
		"A <> 0 +0001":              {Name: "A", Zone: 1},
		"<> 1099511627775 +1400":    {When: 1099511627775, Zone: 840},
		"<> 1234567890 -1400":       {When: 1234567890, Zone: -840},
		"\ufffd <\t> 10 +1359":      {Name: "\ufffd", Email: "\t", When: 10, Zone: 839},
		"0 +0000 <0 +0000> 0 +0959": {Name: "0 +0000", Email: "0 +0000", Zone: 599},
	} {
		if !ident.Right(i) {
			t.Errorf("Right(%+v): false", i)
		}
		if got := ident.Print(i); got != s {
			t.Errorf("Print(%+v): %q; want %q", i, got, s)
		}
		if got, err := ident.Parse(s); err != api.OK || got != i {
			t.Errorf("Parse(%q): %+v, error %d; want %+v", s, got, err, i)
		}
	}
}

// P6.1: each text that may be a Name and an Email is printed and parsed.
func TestRightTexts(t *testing.T) {
	for _, s := range rightTexts() {
		for _, i := range []api.Ident{{Name: s}, {Email: s}, {Name: s, Email: s, When: 9, Zone: 9}} {
			if !ident.Right(i) {
				t.Errorf("Right(%+v): false", i)
			}
			holdIdent(t, i)
		}
	}
}

// P6.1: each text that may not be one is refused in either place, in an ident
// and in the text of one.
func TestWrongTexts(t *testing.T) {
	for _, s := range wrongTexts() {
		for _, i := range []api.Ident{{Name: s}, {Email: s}, {Name: "A", Email: s}, {Name: s, Email: "a"}} {
			if ident.Right(i) || ident.Print(i) != "" {
				t.Errorf("Right(%+v): %t, Print: %q", i, ident.Right(i), ident.Print(i))
			}
		}
		for _, text := range []string{s + " <a@b> 5 -0130", "A <" + s + "> 5 -0130", "<" + s + "> 5 -0130"} {
			if got, err := ident.Parse(text); err != api.ErrForm || got != (api.Ident{}) {
				t.Errorf("Parse(%q): %+v, error %d; want the zero ident and ErrForm", text, got, err)
			}
		}
	}
}

// P6.1: each byte at the beginning, within and at the end of a Name and an Email.
func TestEachByte(t *testing.T) {
	for c := range 256 {
		b := string([]byte{byte(c)})
		for _, s := range []string{b, b + "a", "a" + b, "a" + b + "a", "é" + b, b + "é"} {
			holdIdent(t, api.Ident{Name: s, Email: "m"})
			holdIdent(t, api.Ident{Name: "n", Email: s})
			holdText(t, s+" <m> 0 +0000")
			holdText(t, "n <"+s+"> 0 +0000")
		}
	}
}

// P6.1: texts of each length around the limit, of runes of each width.
func TestLengths(t *testing.T) {
	for _, r := range []string{"a", "é", "€", "\U0001f600"} {
		for n := api.MaxName - 6; n <= api.MaxName+6; n++ {
			s := strings.Repeat(r, n/len(r)) + strings.Repeat("b", n%len(r))
			holdIdent(t, api.Ident{Name: s})
			holdIdent(t, api.Ident{Email: s})
			holdText(t, s+" <> 0 +0000")
			holdText(t, "<"+s+"> 0 +0000")
		}
	}
}

// P6.1: When at either end and beyond.
func TestWhen(t *testing.T) {
	for _, when := range []int64{math.MinInt64, -1 << 40, -5, -1, 0, 1, 9, 10, 99, 1 << 31, 1 << 32, api.MaxWhen - 1, api.MaxWhen, api.MaxWhen + 1, 1 << 41, math.MaxInt64} {
		i := person
		i.When = when
		holdIdent(t, i)
		holdText(t, "A <a@b> "+strconv.FormatInt(when, 10)+" -0130")
	}
	for _, when := range []string{"", "-", "+5", "05", "00", "-0", "5 ", " 5", "5a", "a", "0x5", "5.", "5_0", "\u0665", "\xff", "1e3", "9223372036854775808", "18446744073709551616", "18446744073709551621", strings.Repeat("9", 400)} {
		if got, err := ident.Parse("A <a@b> " + when + " -0130"); err != api.ErrForm || got != (api.Ident{}) {
			t.Errorf("Parse with the date %q: %+v, error %d; want the zero ident and ErrForm", when, got, err)
		}
	}
}

// P6.1: each zone, within its limits and beyond.
func TestEachZone(t *testing.T) {
	count := 0
	for zone := -1000; zone <= 1000; zone++ {
		i := person
		i.Zone = zone
		holdIdent(t, i)
		if ident.Right(i) {
			count++
		}
	}
	if count != 2*840+1 {
		t.Errorf("%d zones are valid", count)
	}
	for _, zone := range []int{math.MinInt, math.MinInt + 1, -1 << 31, -841, 841, 1 << 31, math.MaxInt} {
		i := person
		i.Zone = zone
		holdIdent(t, i)
	}
}

// P6.1: each sign with each four digits: what is a zone, and what is written in
// another way than Print does.
func TestEachTextOfAZone(t *testing.T) {
	for _, sign := range []string{"+", "-"} {
		for n := range 10000 {
			s := fmt.Sprintf("%s%04d", sign, n)
			want, ok := zoned(s)
			got, err := ident.Zone(s)
			if ok && (err != api.OK || got != want) || !ok && (err != api.ErrForm || got != 0) {
				t.Errorf("Zone(%q): %d, error %d; want %d, %t", s, got, err, want, ok)
			}
			if i, e := ident.Parse("A <a@b> 5 " + s); (e == api.OK) != ok || i.Zone != want && ok {
				t.Errorf("Parse with the zone %q: %+v, error %d", s, i, e)
			}
		}
	}
}

// P6.1: texts that are no zone: another sign, a letter, too few and too many
// digits, too many minutes, no zone.
func TestZoneRefuses(t *testing.T) {
	refuse := func(s string) {
		t.Helper()
		if got, err := ident.Zone(s); err != api.ErrForm || got != 0 {
			t.Errorf("Zone(%q): %d, error %d; want 0 and ErrForm", s, got, err)
		}
		text := "A <a@b> 5 " + s
		if got, err := ident.Parse(text); err != api.ErrForm || got != (api.Ident{}) {
			t.Errorf("Parse(%q): %+v, error %d; want the zero ident and ErrForm", text, got, err)
		}
	}
	for _, s := range []string{"", "+", "-", "+1", "+12", "+123", "-012", "0130", "01300", "+01300", "-00000", "-0000", "+0060", "-0060", "+0199", "+1360", "+1401", "-1401", "+1500", "+9999", "+0130 ", " +0130", "+ 130", "+01:30", "+-130", "--130", "++130", "+01\x0030", "+013\n", "Z", "é000", "+é00", "+0é0", "+00é", "+\u0660\u0660", "\u2212130", "\xff0130", "+\xff130", "+013\xff"} {
		refuse(s)
	}
	for c := range 256 {
		b := string([]byte{byte(c)})
		if b != "+" && b != "-" {
			refuse(b + "0130")
		}
		if c < '0' || c > '9' {
			refuse("+" + b + "130")
			refuse("+0" + b + "30")
			refuse("+01" + b + "0")
			refuse("-013" + b)
		}
	}
	refuse(strings.Repeat("+0130", 1000))
}

// P6.1: texts that are nearly what Print tells.
func TestNearlyPrinted(t *testing.T) {
	for _, s := range []string{
		"", " ", "<", "<>", "<> ", "<> 0", "<> 0 ", "<> 0 +", "<> 0 +000", " <> 0 +0000", "  <> 0 +0000", "<>0 +0000", "<>  0 +0000", "<> 0  +0000", "<> 0+0000", "<> 0 +0000 ", "<> 0 +0000\n", "\n<> 0 +0000", "A<> 0 +0000", "A  <> 0 +0000",
		" A <> 0 +0000", "A > 0 +0000", "A < 0 +0000", "A <a@b 5 -0130", "A a@b> 5 -0130", "A <a@b> -0130 5", "A <a@b> 5 -0130 -0130", "A <a@b> 5 5 -0130", "A <a@b> <a@b> 5 -0130", "A <a@b>> 5 -0130", "A <<a@b> 5 -0130", "A <a@b >5 -0130", "A < a@b> 5 -0130",
		"A <a@b> \t5 -0130", "A\t<a@b> 5 -0130", "A <a@b> 5\t-0130", "A <a@b>\u00a05 -0130", "author A <a@b> 5 -0130", "A", "A <a@b>", "A <a@b> ", "A <a@b> 5", "A <a@b> 5 ", "> <", "> < 0 +0000", "A B<a@b> 5 -0130", "A\x00 <a@b> 5 -0130",
	} {
		holdText(t, s)
	}
	for i := range len(personText) {
		holdText(t, personText[:i])
		holdText(t, personText[i+1:])
		holdText(t, personText[:i]+personText[i+1:])
		for c := range 256 {
			b := string([]byte{byte(c)})
			holdText(t, personText[:i]+b+personText[i+1:])
			holdText(t, personText[:i]+b+personText[i:])
		}
	}
	for c := range 256 {
		holdText(t, personText+string([]byte{byte(c)}))
	}
}

// P6.1: all texts of a few pieces.
func TestPiecesOfTexts(t *testing.T) {
	pieces := []string{"A", " ", "<", ">", "> ", " <", "0", "7", "+0000", "-0130", "\n", "\xff"}
	right := 0
	var walk func(s string, left int)
	walk = func(s string, left int) {
		holdText(t, s)
		if _, err := ident.Parse(s); err == api.OK {
			right++
		}
		if left == 0 {
			return
		}
		for _, p := range pieces {
			walk(s+p, left-1)
		}
	}
	walk("", 5)
	for _, start := range []string{"A <", "A<", " <", "<0 ", "A <>", "A <A"} {
		walk(start, 4)
	}
	if right == 0 {
		t.Error("no text of the pieces is the text of an ident")
	}
}

// P6.1: long texts end.
func TestLongTexts(t *testing.T) {
	for _, s := range []string{"a", " ", "<", ">", "> ", "+", "0", "\xff", "é", "\n"} {
		long := strings.Repeat(s, 200_000)
		holdText(t, long)
		holdText(t, "A <a@b> 5 "+long)
		holdIdent(t, api.Ident{Name: long})
		holdClean(t, long)
		holdClean(t, long+"a"+long)
	}
}

// cleaned is what the chapter says of Clean, step by step, by other means than
// the package's.
func cleaned(s string) string {
	var runes []string
	for len(s) > 0 {
		r, size := utf8.DecodeRuneInString(s)
		piece := s[:size]
		s = s[size:]
		broken := r == utf8.RuneError && size == 1
		if broken || piece == "\x00" || piece == "\n" || piece == "<" || piece == ">" {
			continue
		}
		runes = append(runes, piece)
	}
	for len(runes) > 0 && runes[0] == " " {
		runes = runes[1:]
	}
	for length, n := 0, 0; n < len(runes); n++ {
		if length += len(runes[n]); length > api.MaxName {
			runes = runes[:n]
		}
	}
	for len(runes) > 0 && runes[len(runes)-1] == " " {
		runes = runes[:len(runes)-1]
	}
	return strings.Join(runes, "")
}

// holdClean holds what Clean answers against the chapter, and against what
// follows from it: it may be a Name, and stays when it is cleaned again.
func holdClean(t *testing.T, s string) {
	t.Helper()
	got := ident.Clean(s)
	if want := cleaned(s); got != want {
		t.Errorf("Clean(%q): %q; want %q", s, got, want)
	}
	if !mayBe(got) || !ident.Right(api.Ident{Name: got}) {
		t.Errorf("Clean(%q): %q, which may not be a Name", s, got)
	}
	if again := ident.Clean(got); again != got {
		t.Errorf("Clean(%q): %q, and cleaned again %q", s, got, again)
	}
	if mayBe(s) && got != s {
		t.Errorf("Clean(%q): %q, though it may be a Name", s, got)
	}
}

// P6.2: known texts.
func TestKnownCleans(t *testing.T) {
	a := strings.Repeat("a", api.MaxName)
	for s, want := range map[string]string{
		"":                                    "",
		"a":                                   "a",
		" ":                                   "",
		"   ":                                 "",
		" a b ":                               "a b",
		"a  b":                                "a  b",
		"<>":                                  "",
		" < > ":                               "",
		"< a >":                               "a",
		"A <a@b>":                             "A a@b",
		"a\x00b\nc<d>e":                       "abcde",
		"\n\x00 \n a \n \x00":                 "a",
		"\t a \t":                             "\t a \t",
		"\r\n":                                "\r",
		"\u00a0a\u3000":                       "\u00a0a\u3000",
		"\xff":                                "",
		"\xffa\xffb\xff":                      "ab",
		"\xff a \xff":                         "a",
		"\xc3":                                "",
		"a\xc3 b":                             "a b",
		"\xc3<\xa9":                           "",
		"\xc3\xff\xa9":                        "",
		"\xc3\xa9":                            "é",
		"\xe2\x82\xe2\x82\xac\xac":            "€",
		"\xed\xa0\x80":                        "",
		"\xc0\xbc":                            "",
		"\xf4\x90\x80\x80":                    "",
		"\xf4\x8f\xbf\xbf":                    "\U0010ffff",
		"\ufffd":                              "\ufffd",
		"\ufffd\xef\xbf":                      "\ufffd",
		"\xef\xbf\xef\xbf\xbd":                "\ufffd",
		a:                                     a,
		a + "b":                               a,
		" " + a:                               a,
		"<" + a:                               a,
		"\xff" + a:                            a,
		a + " ":                               a,
		a[1:] + " b":                          a[1:],
		a[1:] + " ":                           a[1:],
		a[2:] + "  b":                         a[2:],
		a[1:] + "é":                           a[1:],
		a[2:] + "é":                           a[2:] + "é",
		a[2:] + "€b":                          a[2:],
		a[3:] + "€":                           a[3:] + "€",
		a[1:] + "\U0001f600":                  a[1:],
		a[4:] + "\U0001f600b":                 a[4:] + "\U0001f600",
		a[2:] + " é":                          a[2:],
		a[1:] + "<b":                          a[1:] + "b",
		a[1:] + "\xffbc":                      a[1:] + "b",
		a[1:] + " \xff":                       a[1:],
		strings.Repeat(" ", 1000) + "b":       "b",
		"b" + strings.Repeat(" ", 1000):       "b",
		"b" + strings.Repeat(" ", 199):        "b",
		strings.Repeat("<", 1000) + " b ":     "b",
		"b" + strings.Repeat(" ", 198) + "c":  "b" + strings.Repeat(" ", 198) + "c",
		"b" + strings.Repeat(" ", 199) + "c":  "b",
		" b" + strings.Repeat(" ", 198) + "c": "b" + strings.Repeat(" ", 198) + "c",
	} {
		if got := ident.Clean(s); got != want {
			t.Errorf("Clean(%q): %q; want %q", s, got, want)
		}
		holdClean(t, s)
	}
}

// P6.2: each text that may be a Name stays, and each one that may not becomes one.
func TestCleanOfNames(t *testing.T) {
	for _, s := range append(rightTexts(), wrongTexts()...) {
		holdClean(t, s)
		holdClean(t, s+s)
		holdClean(t, " "+s+" ")
		holdClean(t, s+"\xff"+s)
	}
}

// P6.2: all texts of a few pieces, and the same ones around the limit.
func TestCleanOfPieces(t *testing.T) {
	pieces := []string{" ", "a", "<", "\n", "\xc3", "\xa9", "é", "\xef", "\xbf", "\xbd", "\ufffd"}
	var walk func(s string, left int)
	walk = func(s string, left int) {
		holdClean(t, s)
		if left == 0 {
			return
		}
		for _, p := range pieces {
			walk(s+p, left-1)
		}
	}
	walk("", 5)
	for n := api.MaxName - 4; n <= api.MaxName; n++ {
		walk(strings.Repeat("b", n), 2)
	}
}

// R2: calls at the same time answer what they answer one by one.
func TestAtTheSameTime(t *testing.T) {
	var group sync.WaitGroup
	for n := range 8 {
		group.Go(func() {
			for k := range 200 {
				i := api.Ident{Name: strconv.Itoa(n), Email: strconv.Itoa(k), When: int64(k), Zone: n - k}
				if got, err := ident.Parse(ident.Print(i)); err != api.OK || got != i {
					t.Errorf("%+v: %+v, error %d", i, got, err)
				}
				if got := ident.Clean(" <" + i.Email + "\n "); got != i.Email {
					t.Errorf("Clean of %q: %q", i.Email, got)
				}
			}
		})
	}
	group.Wait()
}
