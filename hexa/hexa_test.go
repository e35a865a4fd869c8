package hexa_test

import (
	"bytes"
	"math"
	"strconv"
	"strings"
	"testing"

	"trestle/api"
	"trestle/hexa"
)

const idText = "000102030405060708090a0b0c0d0e0ff0f1fcff"

// allBytes has each byte once, in ascending order.
func allBytes() []byte {
	b := make([]byte, 256)
	for i := range b {
		b[i] = byte(i)
	}
	return b
}

// P1.1: two digits for each byte, the more significant one first.
func TestHexOfEachByte(t *testing.T) {
	const digits = "0123456789abcdef"
	for i := range 256 {
		want := string([]byte{digits[i/16], digits[i%16]})
		if got := hexa.Hex([]byte{byte(i)}); got != want {
			t.Errorf("Hex of the byte %d: %q, want %q", i, got, want)
		}
	}
	for _, r := range []struct {
		b    []byte
		want string
	}{{nil, ""}, {[]byte{}, ""}, {[]byte{0x0a, 0xff}, "0aff"}, {[]byte{0, 0}, "0000"}, {[]byte("az"), "617a"}} {
		if got := hexa.Hex(r.b); got != r.want {
			t.Errorf("Hex(%v): %q, want %q", r.b, got, r.want)
		}
	}
}

// P1.1: Unhex returns the bytes for which Hex returns the text.
func TestUnhexReadsWhatHexTells(t *testing.T) {
	for n := range 257 {
		b := allBytes()[:n]
		if got, err := hexa.Unhex(hexa.Hex(b)); err != api.OK || !bytes.Equal(got, b) {
			t.Errorf("Unhex of %d bytes: %x, error %d", n, got, err)
		}
	}
}

// P1.1: each byte in either half of a pair: whatever Hex does not tell is refused.
func TestUnhexRefusesOtherCharacters(t *testing.T) {
	for i := range 256 {
		c := string([]byte{byte(i)})
		right := strings.Contains("0123456789abcdef", c)
		for _, s := range []string{c + "0", "0" + c, "ab" + c + "0", "ab0" + c} {
			got, err := hexa.Unhex(s)
			if right && (err != api.OK || hexa.Hex(got) != s) {
				t.Errorf("Unhex(%q): %x, error %d", s, got, err)
			}
			if !right && (err != api.ErrForm || got != nil) {
				t.Errorf("Unhex(%q): %x, error %d; want no bytes and ErrForm", s, got, err)
			}
		}
	}
}

// P1.1: odd lengths, signs, prefixes, spaces, capitals, digits of other scripts, bytes that are no text.
func TestUnhexRefusesOtherTexts(t *testing.T) {
	for _, s := range []string{"0", "abc", "00f", "0x", "0x00", "+0", "-1", " 00", "00 ", "00\n", "0A", "FF", "é", "éa", "aé0", "\u0660\u0660", "0\u0660", "\uff10", "\uff100", "\xff\xff", "0\xff", "\x00\x00", "\ufffd0", strings.Repeat("0", 99)} {
		if got, err := hexa.Unhex(s); err != api.ErrForm || got != nil {
			t.Errorf("Unhex(%q): %x, error %d; want no bytes and ErrForm", s, got, err)
		}
	}
}

// P1.1: Id returns the id for which Hex returns the text.
func TestId(t *testing.T) {
	id, err := hexa.Id(idText)
	if err != api.OK || hexa.Hex(id[:]) != idText || id[0] != 0 || id[1] != 1 || id[19] != 0xff {
		t.Errorf("Id(%q): %x, error %d", idText, id, err)
	}
	if id, err := hexa.Id(strings.Repeat("0", 40)); err != api.OK || id != (api.Id{}) {
		t.Errorf("Id of 40 zeros: %x, error %d", id, err)
	}
}

// P1.1: other lengths than 40 digits, and a wrong character at each place.
func TestIdRefuses(t *testing.T) {
	refuse := func(s string) {
		if id, err := hexa.Id(s); err != api.ErrForm || id != (api.Id{}) {
			t.Errorf("Id(%q): %x, error %d; want the zero id and ErrForm", s, id, err)
		}
	}
	for n := range 100 {
		if n != 40 {
			refuse(strings.Repeat("1", n))
		}
	}
	for i := range 40 {
		for _, c := range []string{"g", "A", " ", "/", ":", "`", "\x00", "\xff", "é"} {
			refuse(idText[:i] + c + idText[i+1:])
		}
	}
	refuse("0x" + idText[2:])
	refuse(strings.Repeat("é", 20))
}

// R3: an argument stays as it is, and an answer is new memory.
func TestBytesAreNotShared(t *testing.T) {
	b := allBytes()
	s := hexa.Hex(b[:100])
	if !bytes.Equal(b, allBytes()) {
		t.Error("Hex has changed its argument")
	}
	b[0] = 9
	if s[:4] != "0001" {
		t.Error("the text of Hex hangs on its argument")
	}
	first, _ := hexa.Unhex("0102")
	first[0] = 9
	if second, _ := hexa.Unhex("0102"); second[0] != 1 {
		t.Error("two answers of Unhex share their bytes")
	}
}

// numbers holds each edge of 64 bits and the steps from one length to the next.
func numbers() []int64 {
	l := []int64{0, 5, 7, 10, 42, math.MaxInt64, math.MaxInt64 - 1, math.MinInt64 + 1, math.MinInt64}
	p := int64(1)
	for range 18 {
		p *= 10
		l = append(l, p-1, p, p+1)
	}
	for i := range 63 {
		l = append(l, 1<<i-1, 1<<i)
	}
	for _, v := range l {
		l = append(l, -v)
	}
	return l
}

// P1.2: Number tells a number, and TakeNumber reads it.
func TestNumberThereAndBack(t *testing.T) {
	for _, v := range numbers() {
		s := hexa.Number(v)
		if want := strconv.FormatInt(v, 10); s != want {
			t.Errorf("Number(%s): %q", want, s)
		}
		if got, err := hexa.TakeNumber(s); err != api.OK || got != v {
			t.Errorf("TakeNumber(%q): %d, error %d", s, got, err)
		}
	}
	for s, v := range map[string]int64{"0": 0, "-5": -5, "100": 100, "9223372036854775807": math.MaxInt64, "-9223372036854775808": math.MinInt64} {
		if got := hexa.Number(v); got != s {
			t.Errorf("Number of %s: %q", s, got)
		}
	}
}

// P1.2: the empty text comes first among the errors.
func TestTakeNumberOfNothing(t *testing.T) {
	if v, err := hexa.TakeNumber(""); err != api.ErrShort || v != 0 {
		t.Errorf("TakeNumber of nothing: %d, error %d; want 0 and ErrShort", v, err)
	}
}

// P1.2: signs, zeros and characters that Number does not tell.
func TestTakeNumberRefusesOtherTexts(t *testing.T) {
	for _, s := range []string{"-", "--1", "+", "+0", "+5", "-+5", "-0", "-00", "-05", "00", "01", "007", "5-", " 5", "5 ", "5\n", "- 5", "1_0", "1,0", "1.0", "1e3", "0x1", "0b1", "a", "f", "1a", "é", "1é", "\u0663", "1\u0663", "\uff11", "\xff", "1\xff", "\x00", "1\x00", "/", ":"} {
		if v, err := hexa.TakeNumber(s); err != api.ErrForm || v != 0 {
			t.Errorf("TakeNumber(%q): %d, error %d; want 0 and ErrForm", s, v, err)
		}
	}
}

// P1.2: numbers beyond 64 bits, those among them that wrap round to small ones.
func TestTakeNumberRefusesTooGreatNumbers(t *testing.T) {
	for _, s := range []string{"9223372036854775808", "9223372036854775809", "9223372036854775810", "9223372036854775900", "10000000000000000000", "18446744073709551615", "18446744073709551616", "18446744073709551621", "92233720368547758070", "99999999999999999999", "340282366920938463463374607431768211456", strings.Repeat("9", 1000)} {
		if v, err := hexa.TakeNumber(s); err != api.ErrForm || v != 0 {
			t.Errorf("TakeNumber(%q): %d, error %d; want 0 and ErrForm", s, v, err)
		}
		if v, err := hexa.TakeNumber("-" + s); s != "9223372036854775808" && (err != api.ErrForm || v != 0) {
			t.Errorf("TakeNumber(%q): %d, error %d; want 0 and ErrForm", "-"+s, v, err)
		}
	}
}

// P1.2: the bytewise order, each string of an ascending row against each other one.
func TestCompare(t *testing.T) {
	row := []string{"", "\x00", "\x00\x00", "\x00a", "A", "Z", "a", "a\x00", "a/", "aa", "ab", "b", "ba", "\x7f", "\x80", "é", "\uffff", "\U0001f600", "\xff", "\xff\x00"}
	for i, a := range row {
		for j, b := range row {
			want := 0
			if i < j {
				want = -1
			}
			if i > j {
				want = 1
			}
			if got := hexa.Compare(a, b); got != want {
				t.Errorf("Compare(%q, %q): %d, want %d", a, b, got, want)
			}
		}
	}
}
