package refname_test

import (
	"regexp"
	"strings"
	"testing"
	"unicode/utf8"

	"trestle/api"
	"trestle/refname"
)

const heads = "refs/heads/"

// texts tells every text of at most n of the pieces.
func texts(n int, pieces ...string) []string {
	all, last := []string{""}, []string{""}
	for range n {
		var next []string
		for _, s := range last {
			for _, p := range pieces {
				next = append(next, s+p)
			}
		}
		all, last = append(all, next...), next
	}
	return all
}

var (
	twoParts = regexp.MustCompile(`^[^/]+(/[^/]+)+$`)
	wrong    = regexp.MustCompile(`(^|/)\.|\.lock(/|$)|\.\.|@\{|[\x00-\x20\x7f~^:?*\[\\]|\.$`)
)

// right is what the chapter says of Right, by other means than the package's.
func right(s string) bool {
	return len(s) <= api.MaxName && utf8.ValidString(s) && twoParts.MatchString(s) && !wrong.MatchString(s)
}

func checkRight(t *testing.T, s string, want bool) {
	t.Helper()
	if got := refname.Right(s); got != want {
		t.Errorf("Right(%q): %v", s, got)
	}
}

func checkBranch(t *testing.T, s string, want bool) {
	t.Helper()
	if got := refname.Branch(s); got != want {
		t.Errorf("Branch(%q): %v", s, got)
	}
}

// checkPart holds a part against both calls, at each place of a name, where
// it is as good at one place as at the other.
func checkPart(t *testing.T, part string, want bool) {
	t.Helper()
	for _, s := range []string{part + "/b", "a/" + part + "/b", "a/" + part, part + "/" + part} {
		checkRight(t, s, want)
		checkBranch(t, s, want && !strings.HasPrefix(s, "-"))
	}
	checkRight(t, part, false)
	checkBranch(t, part, want && !strings.HasPrefix(part, "-"))
}

// P11.1: ordinary names of refs.
func TestRightOfNames(t *testing.T) {
	for _, s := range []string{"refs/heads/a", "refs/heads/main", "refs/tags/v1.0.3", "refs/remotes/origin/main", "refs/heads/a-b_c", "refs/heads/x+y=z", "a/b", "a/b/c/d/e/f/g/h/i/j/k/l/m/n/o/p/q/r/s/t/u", "A/B", "0/1", "refs/heads/é", "日本/語", "refs/heads/e\u0301", "-a/-b", "-/-", "refs/heads/#1", "refs/heads/a,b;c!", "refs/heads/(a)'\"`<>|&%$"} {
		checkRight(t, s, true)
	}
}

// P11.1: ordinary names of branches.
func TestBranchOfNames(t *testing.T) {
	for _, s := range []string{"a", "main", "v1.0", "a/b", "feature/one-two", "refs/heads/a", "refs", "heads", "HEAD", "日本/語", "é", "@", "{", "a-", "a-b", "a/-b", "a/-", "_-", "a/b/c/d/e/f/g/h/i/j/k/l/m/n/o/p/q/r/s/t/u"} {
		checkBranch(t, s, true)
	}
}

// P11.1: a name of a ref has two parts at least; the prefix gives a branch two.
func TestNumberOfParts(t *testing.T) {
	checkRight(t, "", false)
	checkBranch(t, "", false)
	for _, s := range []string{"a", "refs", "HEAD", "refs.heads", "refs-heads-a", "refs\u2215heads", "日本", "@"} {
		checkRight(t, s, false)
		checkBranch(t, s, true)
	}
	for n := 2; n <= api.MaxName/2; n++ {
		s := strings.Repeat("a/", n-1) + "a"
		checkRight(t, s, true)
		checkBranch(t, s, len(heads+s) <= api.MaxName)
	}
}

// P11.1: no part is empty, at whatever place.
func TestEmptyParts(t *testing.T) {
	for _, s := range []string{"/", "//", "///", "/a", "a/", "/a/", "a//b", "//a", "a//", "/a/b", "a/b/", "a/b//c", "a//b/c", "refs/heads/", "/refs/heads/a", "refs//heads/a", "refs/heads//a", "refs/heads/a/"} {
		checkRight(t, s, false)
		checkBranch(t, s, false)
	}
}

// P11.1: no part begins with a period; elsewhere one may stand.
func TestPeriodsAtTheFront(t *testing.T) {
	for _, part := range []string{".", ".a", "..", "..a", ".a.b", ".é", ".git", ".-", ".@"} {
		checkPart(t, part, false)
	}
	for _, part := range []string{"a.b", "a.b.c", "-.a", "é.é", "@.a", "a.@", "\u2024a", "a\u2024", "．", "…"} {
		checkPart(t, part, true)
	}
}

// P11.1: the text doesn't end with a period; a part ahead of the last may.
func TestPeriodsAtTheEnd(t *testing.T) {
	for _, part := range []string{"a.", "é.", "a.b.", "-.", "a.lock."} {
		checkRight(t, "a/"+part, false)
		checkRight(t, "a/b/"+part, false)
		checkRight(t, part+"/"+part, false)
		checkRight(t, part+"/b", true)
		checkRight(t, "a/"+part+"/b", true)
		checkRight(t, "a/"+part+"/"+part+"/b", true)
		checkBranch(t, "a"+part, false)
		checkBranch(t, "a/"+part, false)
		checkBranch(t, "a"+part+"/b", true)
	}
}

// P11.1: no part ends with ".lock".
func TestLockAtTheEnd(t *testing.T) {
	for _, part := range []string{".lock", "a.lock", "lock.lock", "a.b.lock", "a.lock.lock", "é.lock", "-.lock", "a..lock", "@.lock"} {
		checkPart(t, part, false)
	}
	for _, part := range []string{"lock", "alock", "a.locks", "a.lock-", "a.lockx", "a.lock.x", "a.lock.a.b", "a.loc", "a.lok", "a.ock", "a.Lock", "a.LOCK", "a.lock\u0301", "a.loc\u212a", "a_lock", "a-lock", "a.lock.lockx", "a．lock"} {
		checkPart(t, part, true)
	}
	checkPart(t, ".lockx", false)
	for _, s := range []string{"a./lock", "a/lock", "a.lo/ck", "a./lock/b"} {
		checkRight(t, s, true)
		checkBranch(t, s, true)
	}
}

// P11.1: neither of two texts stands in a name, and the bytes of them alone may.
func TestTextsThatNoNameHas(t *testing.T) {
	for _, pair := range []string{"..", "@{"} {
		for _, part := range []string{pair, pair + "a", "a" + pair, "a" + pair + "b", "a" + pair + pair + "b", pair[:1] + pair, pair + pair[1:], "a" + pair[:1] + pair + "b", "é" + pair + "é"} {
			checkPart(t, part, false)
		}
	}
	for _, part := range []string{"@", "{", "@a", "a@", "{a", "a{", "a@b{c", "{@", "a{@b", "@@", "{{", "@}", "}", "{}", "a@.b", "a.{", "@\u0301{", "＠{", "@｛"} {
		checkPart(t, part, true)
	}
	for _, s := range []string{"@/{", "a@/{b", "{/@", "a./b", "a.b/c.d", "a@/b/{c"} {
		checkRight(t, s, true)
		checkBranch(t, s, true)
	}
	for _, s := range []string{"a./.b", "a./.", "a/./.b", "a../b", "a/..b", "a/../b", "../..", "@{/a", "a/@{"} {
		checkRight(t, s, false)
		checkBranch(t, s, false)
	}
}

// P11.1: each byte, at each place of a name.
func TestEachByte(t *testing.T) {
	for i := range 256 {
		c := string([]byte{byte(i)})
		want := 0x21 <= i && i < 0x7f && !strings.Contains(`~^:?*[\`, c)
		for _, s := range []string{c + "a/b", "a" + c + "b/c", "a" + c + "/b", "a/" + c + "b", "a/b" + c + "d", "a/b" + c} {
			first, last := strings.HasPrefix(s, c), strings.HasSuffix(s, c)
			part := first || strings.Contains(s, "/"+c)
			ok := want
			switch i {
			case '.':
				ok = !part && !last
			case '/':
				ok = !part && !last && !strings.Contains(s, c+"/")
			}
			checkRight(t, s, ok)
			checkBranch(t, s, ok && !(i == '-' && first))
		}
	}
}

// P11.1: each byte that no name has, refused wherever it stands in a long name.
func TestWrongBytesAtEachPlace(t *testing.T) {
	name := strings.Repeat("abcd/", 30) + "e"
	checkRight(t, name, true)
	checkBranch(t, name, true)
	for i := range 256 {
		if 0x21 <= i && i < 0x7f && !strings.ContainsRune(`~^:?*[\`, rune(i)) {
			continue
		}
		for at := range len(name) + 1 {
			s := name[:at] + string([]byte{byte(i)}) + name[at:]
			checkRight(t, s, false)
			checkBranch(t, s, false)
		}
	}
}

// P11.1: runes of 0x80 and above are as good as letters.
func TestRunesOfSeveralBytes(t *testing.T) {
	for _, r := range []rune{0x80, 0x85, 0x9f, 0xa0, 0xad, 0xff, 0x100, 0x120, 0x12e, 0x13a, 0x15b, 0x17f, 0x2f00, 0x2e2e, 0x7ff, 0x800, 0x2028, 0x200b, 0x202e, 0x3000, 0xd7ff, 0xe000, 0xfeff, 0xfffd, 0xfffe, 0xffff, 0x10000, 0x1002e, 0x1f600, 0x10ffff} {
		c := string([]rune{r})
		for _, part := range []string{c, c + c, "a" + c, c + "a", "a" + c + "b", c + ".b", "a." + c, "-" + c} {
			checkPart(t, part, true)
		}
	}
}

// P11.1: bytes that are no UTF-8 are refused at each place.
func TestBytesThatAreNoUTF8(t *testing.T) {
	for _, c := range []string{"\x80", "\xbf", "\xc0\x80", "\xc0\xae", "\xc0\xaf", "\xc1\xbf", "\xc3", "\xc3a", "\xe0\x80\x80", "\xe2\x82", "\xed\xa0\x80", "\xed\xbf\xbf", "\xef\xbf", "\xf0\x80\x80\x80", "\xf0\x9f\x98", "\xf4\x90\x80\x80", "\xf5\x80\x80\x80", "\xfe", "\xff", "\ufffd\xff", "\xff\ufffd"} {
		for _, part := range []string{c, "a" + c, c + "a", "a" + c + "b", "é" + c + "é"} {
			checkPart(t, part, false)
		}
	}
	for _, s := range []string{"\xc3/\xa9", "a\xc3/\xa9b"} {
		checkRight(t, s, false)
		checkBranch(t, s, false)
	}
}

// P11.1: each length up to the limit, and beyond it, in bytes.
func TestLength(t *testing.T) {
	for _, c := range []string{"a", "é", "語", "\U0010ffff", "\ufffd"} {
		for n := range api.MaxName + 4 {
			fill := func(n int) string {
				return strings.Repeat(c, n/len(c)) + strings.Repeat("a", n%len(c))
			}
			checkRight(t, "a/"+fill(n), 1 <= n && n+2 <= api.MaxName)
			checkRight(t, heads+fill(n), 1 <= n && n+len(heads) <= api.MaxName)
			checkBranch(t, fill(n), 1 <= n && n+len(heads) <= api.MaxName)
		}
	}
	checkRight(t, "a/"+strings.Repeat("語", api.MaxName-2), false)
	checkBranch(t, strings.Repeat("語", api.MaxName-len(heads)), false)
	checkRight(t, "a/"+strings.Repeat("a", 1<<20), false)
	checkBranch(t, strings.Repeat("a", 1<<20), false)
}

// P11.1: a branch doesn't begin with a hyphen; its ref may.
func TestHyphens(t *testing.T) {
	for _, s := range []string{"-", "-a", "--", "--a", "-a/b", "-/a", "-é", "-.a"} {
		checkBranch(t, s, false)
		checkBranch(t, "a"+s, true)
		checkBranch(t, "a/"+s, true)
		checkRight(t, heads+s, true)
		checkRight(t, s+"/b", true)
	}
	for _, s := range []string{"\u2010a", "\u2212", "－a", "\u00ada", "_", "+a"} {
		checkBranch(t, s, true)
	}
}

// P11.1: every short text of some pieces, held against the definition.
func TestAllShortTexts(t *testing.T) {
	for _, s := range texts(6, "a", "/", ".", ".lock", "@", "{", "-", "é") {
		checkRight(t, s, right(s))
		checkBranch(t, s, right(heads+s) && !strings.HasPrefix(s, "-"))
	}
	for _, s := range texts(4, "a/b", "/", ".", "~", " ", "\x7f", "\x00", "[", `\`, "\xc3", "\xa9", "\ufffd", "]", "refs/heads/") {
		checkRight(t, s, right(s))
		checkBranch(t, s, right(heads+s) && !strings.HasPrefix(s, "-"))
	}
}

// P11.1: the chapter's example.
func TestExample(t *testing.T) {
	checkRight(t, "refs/heads/a", true)
	checkRight(t, "a", false)
}
