package manifest_test

import (
	"bytes"
	"fmt"
	"slices"
	"strings"
	"sync"
	"testing"

	"trestle/api"
	"trestle/manifest"
)

// texts are encodings of some lists.
func texts() [][]byte {
	var all [][]byte
	for _, l := range [][]api.File{list("a"), list("a", "a/b")[1:], list("a", "b/c", "d"), list("0", "a", "b", "x", "xl", "é/x"), list(strings.Repeat("a", 40), strings.Repeat("b", 40))} {
		all = append(all, encoded(l))
	}
	return all
}

// P16.1: an encoding that ends earlier is one only at the end of a line.
func TestCut(t *testing.T) {
	for _, b := range append(texts(), encoded(numbered(api.MaxFiles, 0))) {
		for n := range b {
			if len(b) > 1000 && n > 200 && n < len(b)-200 && n%13 != 0 {
				continue
			}
			if whole := n == 0 || b[n-1] == '\n'; holdParse(t, b[:n]) != whole {
				t.Errorf("Parse of the first %d bytes of %.200q: taken: %t", n, b, !whole)
			}
			holdParse(t, b[n:])
		}
	}
}

// P16.1: an encoding with each byte put in, taken out or turned at each place
// is taken only if it is another list's.
func TestTurned(t *testing.T) {
	taken := 0
	for _, b := range texts() {
		for i := range len(b) + 1 {
			for c := range 256 {
				if holdParse(t, slices.Insert(slices.Clone(b), i, byte(c))) {
					taken++
				}
				if i == len(b) {
					continue
				}
				turned := slices.Clone(b)
				turned[i] = byte(c)
				if holdParse(t, turned) {
					taken++
				}
			}
			if i < len(b) {
				holdParse(t, slices.Delete(slices.Clone(b), i, i+1))
			}
		}
		for c := range 256 {
			refuse(t, append(slices.Clone(b), byte(c)))
		}
	}
	if taken < 1000 {
		t.Errorf("%d texts are taken: the test is none", taken)
	}
}

// P16.1: each line has an end, and none is empty.
func TestLines(t *testing.T) {
	one, two, three := "a\x00"+none+"\n", "b\x00"+hello+"x\n", "c/d\x00"+none+"l\n"
	accept(t, []byte(one+two+three))
	for _, s := range []string{
		strings.TrimSuffix(one, "\n"), one + two + strings.TrimSuffix(three, "\n"), strings.TrimSuffix(one, "\n") + two + three, strings.TrimSuffix(one, "\n") + "\r\n" + two, one + "\r" + two, one[:len(one)-1] + "\r", one[:len(one)-1] + "\x00",
		"\n", "\n\n", "\n" + one + two, one + "\n" + two, one + two + "\n", one + two + "\n\n", one + " \n", one + "\x00\n", " " + "\n" + one,
		"\x00", "\x00\n", "a\x00\n", "a\n", "a", "a" + none + "\n", "a " + none + "\n", "a\t" + none + "\n", none + "\n", "\x00" + none + "\n", "\x00" + none + "x\n",
		"a\x00\x00" + none + "\n", "a\x00" + none + "\x00\n", "a\x00" + none + "\x00x\n", "a\x00" + none + "x\x00\n", "a\x00b\x00" + none + "\n", "\x00a\x00" + none + "\n", "a\x00" + none[:20] + "\x00" + none[20:] + "\n", one + "b\x00\x00" + none + "\n",
		"a\x00" + none + "a\x00" + none + "\n", "a\x00 " + none + "\n", "a\x00" + none + " \n", "a\x00" + none + "\nb\x00" + none, "a\x00" + none + " x\n", "a\x00" + none[:20] + "\n" + none[20:] + "\n",
	} {
		refuse(t, []byte(s))
		if s != "" && !strings.HasPrefix(s, "a") && !strings.HasPrefix(s, "\n") {
			refuse(t, []byte(one+s))
		}
	}
}

// P16.1: an id has 40 digits, none of them in capitals, and is not zero.
func TestIds(t *testing.T) {
	for n := range 100 {
		for _, flag := range []string{"", "x", "l"} {
			for _, digit := range []string{"1", "a", "f", "0", "x", "l", "A", "g", "\x00"} {
				b := []byte("a\x00" + strings.Repeat(digit, n) + flag + "\n")
				if right := n == 40 && strings.Contains("1af", digit); holdParse(t, b) != right {
					t.Errorf("Parse of %q: not %t", b, right)
				}
			}
		}
	}
	for i := range 40 {
		for c := range 256 {
			b := []byte("a\x00" + none[:i] + string([]byte{byte(c)}) + none[i+1:] + "\n")
			if right := bytes.IndexByte([]byte("0123456789abcdef"), byte(c)) >= 0; holdParse(t, b) != right {
				t.Errorf("Parse of %q: not %t", b, right)
			}
		}
	}
	for _, id := range []string{strings.ToUpper(none), "E" + none[1:], "+" + none[1:], "-" + none[1:], "0x" + none[2:], "０" + none[3:], none[:38] + "9_", " " + none[1:], none[1:] + " ", "é" + none[2:], strings.Repeat("0", 40)} {
		refuse(t, []byte("a\x00"+id+"\n"))
		refuse(t, []byte("a\x00"+id+"x\n"))
	}
}

// P16.1: there are two flags, and a file has at most one.
func TestFlags(t *testing.T) {
	for c := range 256 {
		b := []byte("a\x00" + none + string([]byte{byte(c)}) + "\n")
		if right := c == 'x' || c == 'l'; holdParse(t, b) != right {
			t.Errorf("Parse of %q: not %t", b, right)
		}
	}
	for _, flag := range []string{"xl", "lx", "xx", "ll", "X", "L", "xX", "t", "e", "f", "-", "xé", "é", " x", "x ", "x\r", "xlx", "exec", "link", "1", "12", "ab"} {
		for _, path := range []string{"a", "x", "é/l"} {
			refuse(t, []byte(path+"\x00"+none+flag+"\n"))
			refuse(t, []byte("!\x00"+none+"\n"+path+"\x00"+none+flag+"\n"))
			refuse(t, []byte(path+"\x00"+none+flag+"\né\x00"+none+"x\n"))
		}
	}
}

// P16.1: lines whose files are no list that may be.
func TestParseRefuses(t *testing.T) {
	for _, l := range append(wrongs(3, 20), wrongs(200, 390)...) {
		b := encoded(l)
		back, err := printed(l)
		if len(back) != 0 || err != api.ErrOrder {
			t.Fatalf("%s: error %d", told(l), err)
		}
		// A mode that is none has no line of its own.
		if !slices.ContainsFunc(l, func(f api.File) bool { return f.Mode < 1 || f.Mode > 3 }) {
			refuse(t, b)
		}
	}
	for _, path := range slices.Concat(badPaths, zeroPaths, brokenPaths) {
		refuse(t, encoded(list(path)))
		refuse(t, encoded(list("!", path)))
	}
	for _, paths := range [][]string{{"b", "a"}, {"a", "a"}, {"a", "c", "b"}, {"a", "a/b"}, {"a", "a.b", "a/b"}, {"a/b", "a"}, {"a", "b", "a"}, {"é", "z"}, {"a/b", "a.b"}, {"aa", "a"}, {"b", "b/c/d"}, {"日", "日/本"}, {"a/b", "a/b/c"}} {
		refuse(t, encoded(list(paths...)))
		refuse(t, append(encoded(list("!")), encoded(list(paths...))...))
	}
	twice := encoded(list("a"))
	refuse(t, append(slices.Clone(twice), twice...))
	refuse(t, []byte("a\x00"+none+"\na\x00"+none+"x\n"))
	refuse(t, []byte("a\x00"+none+"x\na\x00"+none+"\n"))
}

// wreck writes over files, and over what they have room for beyond their number.
func wreck(l []api.File) {
	l = l[:cap(l)]
	for i := range l {
		l[i] = api.File{Path: "wrecked", Mode: 9}
	}
}

// spoil writes over bytes, and over what they have room for beyond their length.
func spoil(b []byte) {
	b = b[:cap(b)]
	for i := range b {
		b[i] ^= 0x5a
	}
}

// P16.1, R3: what is handed in stays as it is, and what a caller does with it
// afterwards changes nothing.
func TestHandedIn(t *testing.T) {
	for _, l := range [][]api.File{list("a"), list("a", "b/c", "d"), list("b", "a"), list("a\n"), numbered(200, 390), numbered(api.MaxFiles, 0), list("")} {
		room := append(slices.Clone(l), list("y", "x", "z")...)
		before := slices.Clone(room)
		want, wantErr := printed(l)
		b, err := manifest.Print(room[:len(l)])
		if !slices.Equal(room, before) {
			t.Errorf("Print has written to %s", told(l))
		}
		wreck(room)
		if !bytes.Equal(b, want) || err != wantErr {
			t.Errorf("what Print told of %s hangs on what was handed in", told(l))
		}
		text := append(encoded(l), "more\x00"...)
		whole := bytes.Clone(text)
		n := len(encoded(l))
		files, wantErr := parsed(text[:n])
		back, err := manifest.Parse(text[:n])
		if !bytes.Equal(text, whole) {
			t.Errorf("Parse has written to %.200q", whole)
		}
		spoil(text)
		if !slices.Equal(back, files) || err != wantErr {
			t.Errorf("what Parse told of %.200q hangs on what was handed in", whole)
		}
	}
}

// P16.1, R3: what is handed out is new memory, and writing to it changes nothing.
func TestHandedOut(t *testing.T) {
	for _, l := range [][]api.File{list("a"), list("a", "b/c", "d"), numbered(api.MaxFiles, 0)} {
		b, _ := manifest.Print(l)
		again, _ := manifest.Print(l)
		want := encoded(l)
		spoil(b)
		if !bytes.Equal(again, want) {
			t.Errorf("two answers of Print share their bytes")
		}
		back, _ := manifest.Parse(again)
		other, _ := manifest.Parse(again)
		wreck(back)
		if !slices.Equal(other, l) || !bytes.Equal(again, want) {
			t.Errorf("two answers of Parse share their files")
		}
		spoil(again)
		wreck(other)
		holdPrint(t, l, api.OK)
		accept(t, want)
	}
}

// P16.1, R2: calls at one time have no influence on each other.
func TestAtOneTime(t *testing.T) {
	all := [][]api.File{list("a"), list("b", "c"), list("b", "a"), list("x\n"), numbered(api.MaxFiles, 0), numbered(200, 390), nil}
	var wait sync.WaitGroup
	faults := make([]string, 8)
	for i := range faults {
		wait.Go(func() {
			for j := range 40 {
				l := all[(i+j)%len(all)]
				want, wantErr := printed(l)
				b, err := manifest.Print(l)
				back, backErr := manifest.Parse(want)
				if !bytes.Equal(b, want) || err != wantErr || backErr != api.OK || err == api.OK && !slices.Equal(back, l) {
					faults[i] = fmt.Sprintf("Print of %s: error %d; Parse: error %d", told(l), err, backErr)
				}
			}
		})
	}
	wait.Wait()
	for _, s := range faults {
		if s != "" {
			t.Error(s)
		}
	}
}
