package quote_test

import (
	"fmt"
	"regexp"
	"strings"
	"testing"

	"trestle/api"
	"trestle/quote"
)

// texts tells every text of at most n of the pieces.
func texts(n int, pieces ...string) []string {
	all, last := []string{""}, []string{""}
	for range n {
		var next []string
		for _, s := range last {
			for _, p := range pieces {
				next = append(next, s+p)
			}
		}
		all, last = append(all, next...), next
	}
	return all
}

var bare = regexp.MustCompile(`^[!#-\[\]-~]+$`)

// quoted is what the chapter says of Quote, by other means than the package's.
func quoted(s string) string {
	if bare.MatchString(s) {
		return s
	}
	q := `"`
	for _, c := range []byte(s) {
		q += formOf(c)
	}
	return q + `"`
}

func formOf(c byte) string {
	switch {
	case c == '"':
		return `\"`
	case c == '\\':
		return `\\`
	case c == 0x0a:
		return `\n`
	case c == 0x09:
		return `\t`
	case c < 0x20 || c > 0x7e:
		return fmt.Sprintf(`\%03o`, c)
	}
	return string([]byte{c})
}

func checkPath(t *testing.T, s string, want bool) {
	t.Helper()
	if got := quote.Path(s); got != want {
		t.Errorf("Path(%q): %v", s, got)
	}
}

// refused expects the error, and nothing beside it.
func refused(t *testing.T, s string, want api.Errno) {
	t.Helper()
	if got, n, err := quote.Unquote(s); got != "" || n != 0 || err != want {
		t.Errorf("Unquote(%q): %q, %d, error %d, want the error %d alone", s, got, n, err, want)
	}
}

// read expects the text, of which the quoted form is the first n bytes of s.
func read(t *testing.T, s, want string, n int) {
	t.Helper()
	if got, m, err := quote.Unquote(s); got != want || m != n || err != api.OK {
		t.Errorf("Unquote(%q): %q, %d, error %d, want %q, %d", s, got, m, err, want, n)
	}
}

// P3.1: ordinary paths.
func TestPathOfNames(t *testing.T) {
	for _, s := range []string{"a", "a/b", "README.md", "src/main.go", "a b", " a", "a ", " ", "a\nb", "\t", "\x01", "\x7f", "a\\b", "\"", "~", "a:b", "é", "日本/語", "\u00a0", "\ufffd", "a/\ufffd", "\U0010ffff", "e\u0301"} {
		checkPath(t, s, true)
	}
}

// P3.1: each length up to the limit, and one beyond it, in bytes.
func TestPathLength(t *testing.T) {
	for n := range api.MaxPath + 3 {
		checkPath(t, strings.Repeat("a", n), 1 <= n && n <= api.MaxPath)
		wide := strings.Repeat("é", n/2) + strings.Repeat("a", n%2)
		checkPath(t, wide, 1 <= n && n <= api.MaxPath)
	}
	checkPath(t, strings.Repeat("é", api.MaxPath), false)
	checkPath(t, strings.Repeat("a", 1<<20), false)
}

// P3.1: each number of names up to the limit, and one beyond it.
func TestPathDepth(t *testing.T) {
	for n := 1; n <= api.MaxDepth+3; n++ {
		checkPath(t, strings.Repeat("a/", n-1)+"a", n <= api.MaxDepth)
		checkPath(t, strings.Repeat("/", n), false)
		checkPath(t, strings.Repeat("a/", n), false)
	}
	wide := strings.Repeat("a", api.MaxPath-2*(api.MaxDepth-1))
	checkPath(t, strings.Repeat("a/", api.MaxDepth-1)+wide, true)
	checkPath(t, strings.Repeat("a/", api.MaxDepth-1)+wide+"a", false)
}

// around lays a name alone, and at the front, in the midst and at the end of a path.
func around(name string) []string {
	return []string{name, name + "/a", "a/" + name + "/b", "a/" + name}
}

// P3.1: names that no path may have, wherever they stand.
func TestPathOfReservedNames(t *testing.T) {
	names := []string{"", ".", ".."}
	for i := range 8 {
		name := []byte(".git")
		for bit := range 3 {
			if i>>bit&1 == 1 {
				name[1+bit] -= 'a' - 'A'
			}
		}
		names = append(names, string(name))
	}
	for _, name := range names {
		for _, s := range around(name) {
			checkPath(t, s, false)
		}
	}
}

// P3.1: names that are merely like those.
func TestPathOfNamesNearReservedOnes(t *testing.T) {
	for _, name := range []string{"...", "....", ". ", " .", ".. ", ".a", "a.", "..a", "a..", ".gi", "git", ".git ", " .git", ".gitx", "x.git", "..git", ".git.", ".gt", ".got", "_git", "\x0egit", "Git", ".g\u0131t", ".g\u0130t", ".gi\u0442", ".\uff47it", "\u2024git", "．．"} {
		for _, s := range around(name) {
			checkPath(t, s, true)
		}
	}
	checkPath(t, "..\\..", true)
}

// P3.1: each byte in a path, alone and amidst others.
func TestPathOfEachByte(t *testing.T) {
	for i := range 256 {
		c := string([]byte{byte(i)})
		checkPath(t, c, i != 0 && i != '.' && i != '/' && i < 0x80)
		checkPath(t, "a"+c+"b", i != 0 && i < 0x80)
		checkPath(t, "a/b"+c, i != 0 && i != '/' && i < 0x80)
		checkPath(t, c+"b/a", i != 0 && i != '/' && i < 0x80)
	}
}

// P3.1: whatever is no UTF-8 is refused.
func TestPathIsValidText(t *testing.T) {
	for _, bad := range []string{"\x80", "\xbf", "\xc3", "\xc0\x80", "\xc1\xbf", "\xe0\x80\x80", "\xe0\x9f\xbf", "\xe2\x82", "\xed\xa0\x80", "\xed\xbf\xbf", "\xf0\x8f\xbf\xbf", "\xf0\x9f\x98", "\xf4\x90\x80\x80", "\xf8\x88\x80\x80\x80", "\xfe", "\xff", "\xc3/\xa9", "\xa9\xc3"} {
		for _, s := range []string{bad, "a" + bad, bad + "a", "é" + bad, "a/" + bad + "/b", "\ufffd" + bad} {
			checkPath(t, s, false)
		}
	}
}

// P3.1: every text of few pieces, held against the definition.
func TestPathOfManyTexts(t *testing.T) {
	right := regexp.MustCompile(`^[^/]+(/[^/]+)*$`)
	wrong := regexp.MustCompile(`(^|/)(\.|\.\.|\.[gG][iI][tT])(/|$)`)
	for _, s := range texts(5, "/", ".", ".git", "GIT", "a") {
		checkPath(t, s, right.MatchString(s) && !wrong.MatchString(s))
	}
}

// P3.1: each byte in a plain text: at its front, alone, and later.
func TestPlainOfEachByte(t *testing.T) {
	for i := range 256 {
		c := string([]byte{byte(i)})
		inside := i >= 0x20 && i != 0x7f && i != '"' && i != '\\'
		for s, want := range map[string]bool{c: inside && i != ' ', c + "a": inside && i != ' ', "a" + c: inside, "a" + c + "b": inside, "é" + c: inside} {
			if got := quote.Plain(s); got != want {
				t.Errorf("Plain(%q): %v", s, got)
			}
		}
	}
}

// P3.1: the empty text, spaces, and texts that are no paths.
func TestPlainOfTexts(t *testing.T) {
	for s, want := range map[string]bool{"": false, " ": false, "  ": false, " a": false, "a ": true, "a  b ": true, "\u00a0a": true, "\u0085": true, "/": true, "a//b": true, ".git": true, "日本": true, "\xff\xfe": true, "\xc3": true, "a\r": false, "é\x00": false, "\xff\"": false} {
		if got := quote.Plain(s); got != want {
			t.Errorf("Plain(%q): %v", s, got)
		}
	}
	long := strings.Repeat("a", 1<<20)
	if !quote.Plain(long) || quote.Plain(long+"\n") {
		t.Error("Plain of a long text")
	}
}

// P3.2: what the chapter shows and says of single texts.
func TestQuoteOfTexts(t *testing.T) {
	for s, want := range map[string]string{
		"a b": `"a b"`, "a": `a`, "": `""`, " ": `" "`, " a": `" a"`, "a ": `"a "`,
		`"`: `"\""`, `\`: `"\\"`, `\n`: `"\\n"`, "\n": `"\n"`, "\t": `"\t"`, "\r": `"\015"`,
		"\x00": `"\000"`, "\x1f": `"\037"`, "\x7f": `"\177"`, "\x80": `"\200"`, "\xff": `"\377"`,
		"~!#[]": `~!#[]`, "a/b.c": `a/b.c`, "é": `"\303\251"`, "\ufffd": `"\357\277\275"`,
		"日": `"\346\227\245"`, "\U0001f600": `"\360\237\230\200"`, "\xe6\x97": `"\346\227"`,
		"1\x002": `"1\0002"`, "é b": `"\303\251 b"`, "'": `'`,
	} {
		if got := quote.Quote(s); got != want {
			t.Errorf("Quote(%q): %s, want %s", s, got, want)
		}
	}
}

// P3.2: each byte alone, each two bytes, and longer texts, held against the
// chapter; Unquote returns them, whatever may follow.
func TestQuoteAndBack(t *testing.T) {
	all := texts(5, "a", "0", " ", `"`, `\`, "n", "\n", "\t", "é", "\xc3")
	for i := range 256 {
		all = append(all, string([]byte{byte(i)}), "a"+string([]byte{byte(i)})+"b")
		for j := range 256 {
			all = append(all, string([]byte{byte(i), byte(j)}))
		}
	}
	for _, s := range all {
		q := quote.Quote(s)
		if want := quoted(s); q != want {
			t.Fatalf("Quote(%q): %s, want %s", s, q, want)
		}
		read(t, q, s, len(q))
		read(t, q+" a\"", s, len(q))
		read(t, q+"\n\"", s, len(q))
	}
}

// P3.2: long texts, bare and quoted.
func TestQuoteOfLongTexts(t *testing.T) {
	long := strings.Repeat("ab/", 1<<18)
	for _, s := range []string{long, long + " ", strings.Repeat("\\\"é\n", 1<<16), strings.Repeat("\xff", 1<<18)} {
		q := quote.Quote(s)
		read(t, q+" rest", s, len(q))
		if s != long {
			refused(t, q[:len(q)-1], api.ErrShort)
		}
	}
}

// P3.2: what follows the text is left, and a text without marks ends before a
// space or the end of a line.
func TestUnquoteLeavesTheRest(t *testing.T) {
	for _, r := range []struct {
		s, want string
		n       int
	}{
		{"ab c", "ab", 2}, {"ab\nc", "ab", 2}, {"ab", "ab", 2}, {"ab ", "ab", 2}, {"ab \xff\x00", "ab", 2}, {"a\n ", "a", 1}, {"a \n", "a", 1},
		{`"a b"`, "a b", 5}, {`"a b"c`, "a b", 5}, {`"a b""c"`, "a b", 5}, {`"a b" "`, "a b", 5}, {`""`, "", 2}, {`"""`, "", 2}, {`""a`, "", 2}, {`"\""x"`, `"`, 4}, {`"\\"x"`, `\`, 4}, {"\" \"\xff", " ", 3},
	} {
		read(t, r.s, r.want, r.n)
	}
}

// P3.2: a quoted text that does not end, cut at each byte, is too short
// before anything else is wrong with it.
func TestUnquoteOfTextThatDoesNotEnd(t *testing.T) {
	for _, s := range []string{"\"a b\\\"\\\\\\n\\t\\303\\251\"", `"a\x \400é"`, "\"\n\x00\\012\""} {
		for n := 1; n < len(s); n++ {
			refused(t, s[:n], api.ErrShort)
		}
	}
	for _, s := range []string{`"`, `"\`, `"\"`, `"\\`, `"\\\"`, `"a`, `"\1`, `"\12`, `"\123`, `"\x`, "\"\n", "\"\xff", "\"a b\\\" more\\\""} {
		refused(t, s, api.ErrShort)
	}
}

// P3.2: each byte between the marks, and after a backslash there: all but
// Quote's forms are refused.
func TestUnquoteRefusesOtherForms(t *testing.T) {
	for i := range 256 {
		c := string([]byte{byte(i)})
		if i != '"' && i != '\\' {
			if s := `" ` + c + `"`; 0x20 <= i && i <= 0x7e {
				read(t, s, " "+c, len(s))
			} else {
				refused(t, s, api.ErrForm)
			}
		}
		if s := `" \` + c + `"`; strings.Contains(`"\nt`, c) {
			read(t, s, " "+map[string]string{`"`: `"`, `\`: `\`, "n": "\n", "t": "\t"}[c], len(s))
		} else {
			refused(t, s, api.ErrForm)
		}
	}
}

// P3.2: each three digits after a backslash, and a bad one at each place.
func TestUnquoteOfOctalDigits(t *testing.T) {
	for v := range 512 {
		s := fmt.Sprintf(`"\%03o"`, v)
		if v < 256 && formOf(byte(v)) == s[1:5] {
			read(t, s, string([]byte{byte(v)}), 6)
		} else {
			refused(t, s, api.ErrForm)
		}
	}
	for _, bad := range []string{"8", "9", "a", "f", "/", ":", "+", "-", "_", " ", "\x00", "é", "\xff", "\n"} {
		for _, s := range []string{bad + "01", "0" + bad + "1", "00" + bad, "1" + bad, "1", "01", "0", "00"} {
			refused(t, `"\`+s+`"`, api.ErrForm)
			refused(t, `"a b\`+s+`" more`, api.ErrForm)
		}
	}
	for _, s := range []string{`"\0\1"`, `"\00\\"`, `"\00\""`, `"\1\"1"`, `"\0o1"`, `"\0x1"`, `"\u00e9"`, `"\r"`, `"\a"`, `"\'"`} {
		refused(t, s, api.ErrForm)
	}
}

// P3.2: texts between marks that have to stand without them.
func TestUnquoteRefusesNeedlessMarks(t *testing.T) {
	for _, s := range []string{`"a"`, `"a/b" c`, `"~"`, `"'"`, `"[]"`} {
		refused(t, s, api.ErrForm)
	}
}

// P3.2: texts without marks that have to stand between them.
func TestUnquoteRefusesBareText(t *testing.T) {
	for i := range 256 {
		c := string([]byte{byte(i)})
		switch {
		case i == ' ' || i == '\n':
			refused(t, c, api.ErrForm)
			refused(t, c+"a", api.ErrForm)
		case i == '"':
			refused(t, "a"+c, api.ErrForm)
			refused(t, "a"+c+"b "+c, api.ErrForm)
		case i <= 0x20 || i > 0x7e || i == '\\':
			refused(t, c, api.ErrForm)
			refused(t, "a"+c+"b c", api.ErrForm)
		default:
			read(t, c+"\n", c, 1)
			read(t, "a"+c+"b c", "a"+c+"b", 3)
		}
	}
	refused(t, "", api.ErrForm)
	refused(t, "a\tb", api.ErrForm)
	refused(t, "é", api.ErrForm)
}

var (
	toSpace = regexp.MustCompile(`^[^ \n]*`)
	toMark  = regexp.MustCompile(`(?s)^"(?:[^"\\]|\\.)*"`)
	forms   = regexp.MustCompile(`^"(?:[ !#-\[\]-~]|\\["\\nt]|\\[0-3][0-7][0-7])*"$`)
	needed  = regexp.MustCompile(`^""$| |\\`)
	another = regexp.MustCompile(`^"(?:[^\\]|\\[^0-3]|\\[0-3]..)*?\\(?:011|012|0[4-7][0-7]|1[0-6][0-7]|17[0-6])`)
)

// verdict is what the chapter says of Unquote, by other means than the
// package's: how many bytes the text has, and the error.
func verdict(s string) (int, api.Errno) {
	if !strings.HasPrefix(s, `"`) {
		text := toSpace.FindString(s)
		if quoted(text) != text {
			return 0, api.ErrForm
		}
		return len(text), api.OK
	}
	text := toMark.FindString(s)
	if text == "" {
		return 0, api.ErrShort
	}
	if !forms.MatchString(text) || !needed.MatchString(text) || another.MatchString(text) {
		return 0, api.ErrForm
	}
	return len(text), api.OK
}

// What follows: Unquote accepts what Quote returns, and nothing else: every
// text of few pieces.
func TestUnquoteAcceptsNothingElse(t *testing.T) {
	for _, s := range texts(6, `"`, `\`, "n", "0", "1", "4", " ", "\n", "\xc3") {
		n, want := verdict(s)
		if want != api.OK {
			refused(t, s, want)
			continue
		}
		got, m, err := quote.Unquote(s)
		if err != api.OK || m != n || quoted(got) != s[:n] {
			t.Fatalf("Unquote(%q): %q, %d, error %d; want the first %d bytes", s, got, m, err, n)
		}
	}
}
