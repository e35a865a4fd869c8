package delta_test

import (
	"encoding/binary"
	"encoding/hex"
	"math"
	"slices"
	"strings"
	"testing"

	"trestle/api"
	"trestle/delta"
)

const most = 1<<31 - 1 // the greatest number of an encoding

// near is the number that an encoding has for another one.
func near(n int) uint32 {
	switch {
	case n < 0:
		return 0
	case n > most:
		return most
	}
	return uint32(n)
}

// word is the encoding of a number, of any that four bytes may have.
func word(n uint32) string { return string(binary.BigEndian.AppendUint32(nil, n)) }

// printed is what the chapter says of Print.
func printed(l []api.Edit) string {
	var parts []string
	for _, e := range l {
		parts = append(parts, word(near(e.From)), word(near(e.To)), word(near(len(e.B))), string(e.B))
	}
	return strings.Join(parts, "")
}

// parsed is what the chapter says of Parse: the numbers and the Bs are read one
// by one.
func parsed(s string) ([]api.Edit, api.Errno) {
	var l []api.Edit
	for s != "" {
		var n [3]int
		for i := range n {
			if len(s) < 4 {
				return nil, api.ErrShort
			}
			n[i] = int(binary.BigEndian.Uint32([]byte(s)))
			if n[i] > most {
				return nil, api.ErrForm
			}
			s = s[4:]
		}
		if n[2] > len(s) {
			return nil, api.ErrShort
		}
		l = append(l, edit(n[0], n[1], s[:n[2]]))
		s = s[n[2]:]
	}
	return l, api.OK
}

// holdPrint holds what Print answers, and what Parse makes of it, against the
// chapter.
func holdPrint(t *testing.T, l ...api.Edit) {
	t.Helper()
	want := printed(l)
	b := delta.Print(l)
	if string(b) != want {
		t.Fatalf("Print of %s: %.80x; want %.80x", told(l), b, want)
	}
	back := clone(l)
	for i, e := range l {
		back[i].From, back[i].To = int(near(e.From)), int(near(e.To))
	}
	if got, err := delta.Parse(b); !slices.EqualFunc(got, back, same) || err != api.OK {
		t.Fatalf("Parse of Print of %s: %s, error %d", told(l), told(got), err)
	}
}

// holdParse holds what Parse answers against the chapter, and tells the error.
func holdParse(t *testing.T, s string) api.Errno {
	t.Helper()
	want, wantErr := parsed(s)
	got, err := delta.Parse([]byte(s))
	if !slices.EqualFunc(got, want, same) || err != wantErr {
		t.Fatalf("Parse of %d bytes %.80x: %s, error %d; want %s, error %d", len(s), s, told(got), err, told(want), wantErr)
	}
	return err
}

// faulty expects an error of Parse, and nothing beside it.
func faulty(t *testing.T, want api.Errno, s string) {
	t.Helper()
	if l, err := delta.Parse([]byte(s)); len(l) != 0 || err != want {
		t.Errorf("Parse of %d bytes %.80x: %s, error %d; want %d", len(s), s, told(l), err, want)
	}
	if err := holdParse(t, s); err != want {
		t.Errorf("the test's own reading of %.80x: error %d; want %d", s, err, want)
	}
}

// P14.2: encodings that are known, byte by byte.
func TestPrintOfKnownEdits(t *testing.T) {
	for _, r := range []struct {
		l    []api.Edit
		want string
	}{
		{nil, ""}, {[]api.Edit{}, ""}, {[]api.Edit{{}}, "000000000000000000000000"}, {[]api.Edit{edit(1, 2, "x")}, "00000001" + "00000002" + "00000001" + "78"}, {[]api.Edit{edit(1, 258, "xy"), edit(most, 3, "")}, "00000001" + "00000102" + "00000002" + "7879" + "7fffffff" + "00000003" + "00000000"},
		{[]api.Edit{edit(0x01020304, 0x7fedcba9, "\x80\xff\xfe")}, "01020304" + "7fedcba9" + "00000003" + "80fffe"}, {[]api.Edit{edit(-1, 1<<31, "")}, "00000000" + "7fffffff" + "00000000"}, {[]api.Edit{edit(255, 256, ""), edit(65535, 65536, "\x00")}, "000000ff" + "00000100" + "00000000" + "0000ffff" + "00010000" + "00000001" + "00"},
		{[]api.Edit{edit(math.MinInt, math.MaxInt, "\x00\x00")}, "00000000" + "7fffffff" + "00000002" + "0000"}, {[]api.Edit{edit(9, 3, "a"), edit(9, 3, "a")}, "00000009" + "00000003" + "00000001" + "61" + "00000009" + "00000003" + "00000001" + "61"},
		{[]api.Edit{edit(3, 4, strings.Repeat("a", 256))}, "00000003" + "00000004" + "00000100" + strings.Repeat("61", 256)},
	} {
		if got := hex.EncodeToString(delta.Print(r.l)); got != r.want {
			t.Errorf("Print of %s: %.80s; want %.80s", told(r.l), got, r.want)
		}
		holdPrint(t, r.l...)
	}
}

// P14.2: numbers of all kinds, at the first edit and at a later one, in any
// order.
func TestPrintOfNumbers(t *testing.T) {
	numbers := append(slices.Clone(oddNumbers), 0, 1, 2, 127, 128, 255, 256, 257, 511, 512, 65535, 65537, 1<<24-1, 1<<24, 1<<24+1, 0x01020304, most-1)
	for _, from := range numbers {
		for _, to := range numbers {
			holdPrint(t, edit(from, to, ""))
			holdPrint(t, edit(from, to, "\xff\x00"))
			holdPrint(t, edit(1, 2, "abc"), edit(from, to, "x"), edit(to, from, ""))
		}
	}
	for bit := range 31 {
		holdPrint(t, edit(1<<bit, 1<<bit-1, ""), edit(1<<bit-1, 1<<bit, "x"))
	}
}

// P14.2: a B of each byte, and of many lengths, more than a text may have
// among them.
func TestPrintOfBytes(t *testing.T) {
	var all []byte
	for c := range 256 {
		all = append(all, byte(c))
		holdPrint(t, edit(1, 2, string([]byte{byte(c)})))
		holdPrint(t, edit(1, 2, string(all)), edit(3, 4, string([]byte{byte(c)})))
	}
	for _, n := range []int{0, 1, 127, 128, 255, 256, 257, 65535, api.MaxBody, api.MaxBody + 1, 1<<24 - 1, 1 << 24, 1<<24 + 1} {
		b := varied(n)
		holdPrint(t, edit(0, 0, b))
		holdPrint(t, edit(0, 0, "x"), edit(n, n+1, b), edit(n, n, "y"))
	}
	holdPrint(t, slices.Repeat([]api.Edit{edit(1, 2, "x"), edit(3, 4, ""), edit(2, 1, "yz")}, 3000)...)
	// A B may look like an encoding.
	inner := printed([]api.Edit{edit(1, 2, "x"), edit(3, 4, "")})
	holdPrint(t, edit(0, 0, inner), edit(9, 9, inner+inner))
}

// P14.2: Parse reads what Print makes of all short lists.
func TestPrintOfAllShortLists(t *testing.T) {
	var some []api.Edit
	for _, from := range []int{0, 1, most} {
		for _, to := range []int{0, 256, most} {
			for _, b := range []string{"", "\x00", "\x80\x00\x00\x00"} {
				some = append(some, edit(from, to, b))
			}
		}
	}
	for _, x := range some {
		holdPrint(t, x)
		for _, y := range some {
			holdPrint(t, x, y)
			for _, z := range some {
				holdPrint(t, x, y, z)
			}
		}
	}
}

// P14.2: no bytes are no edits.
func TestParseOfNothing(t *testing.T) {
	for _, b := range [][]byte{nil, {}, []byte(printed([]api.Edit{edit(1, 2, "x")}))[:0]} {
		if l, err := delta.Parse(b); len(l) != 0 || err != api.OK {
			t.Errorf("Parse of nothing: %s, error %d", told(l), err)
		}
	}
}

// P14.2: the edits of an encoding need not be valid for any text.
func TestParseOfAnyNumbers(t *testing.T) {
	l := []api.Edit{edit(9, 3, "x"), edit(0, 0, ""), edit(most, 0, "yz"), edit(0, most, ""), edit(most, most, "")}
	got, err := delta.Parse([]byte(printed(l)))
	if !slices.EqualFunc(got, l, same) || err != api.OK {
		t.Errorf("Parse: %s, error %d; want %s", told(got), err, told(l))
	}
}

// P14.2: encodings cut at each byte: what is cut between two edits has those
// ahead of it, and all others are too short.
func TestParseOfCuts(t *testing.T) {
	for _, l := range [][]api.Edit{
		{{}}, {edit(1, 2, "x")}, {edit(1, 2, "x"), edit(3, 4, "")}, {edit(most, most, ""), edit(most, 1, "yz"), {}}, {{}, {}, {}, {}}, {edit(1, 2, varied(300)), edit(3, 4, varied(20))}, {edit(1, 2, "\x80\x80\x80\x80"), edit(3, 4, "\xff\xff\xff\xff\xff")},
	} {
		s := printed(l)
		ends := []int{0}
		for i := range l {
			ends = append(ends, len(printed(l[:i+1])))
		}
		for n := range len(s) + 1 {
			if i := slices.Index(ends, n); i < 0 {
				faulty(t, api.ErrShort, s[:n])
			} else if got, err := delta.Parse([]byte(s[:n])); !slices.EqualFunc(got, l[:i], same) || err != api.OK {
				t.Errorf("Parse of %.80x: %s, error %d; want %s", s[:n], told(got), err, told(l[:i]))
			}
		}
	}
}

// P14.2: each number of an encoding at its bound and beyond it, in the first
// edit and in a later one, with nothing behind it and with more.
func TestParseOfNumbers(t *testing.T) {
	for _, ahead := range []string{"", printed([]api.Edit{edit(1, 2, "x")}), printed([]api.Edit{edit(1, 2, "x"), {}, edit(most, most, "\xff\xff")})} {
		for _, n := range []uint32{1 << 31, 1<<31 + 1, 1<<31 + 1<<30, 1<<32 - 256, 1<<32 - 1} {
			for _, more := range []string{"", "\x00", "\x00\x00\x00", word(0), word(n), word(0) + word(0), varied(300)} {
				faulty(t, api.ErrForm, ahead+word(n)+more)
				faulty(t, api.ErrForm, ahead+word(3)+word(n)+more)
				faulty(t, api.ErrForm, ahead+word(3)+word(4)+word(n)+more)
			}
			// Too few bytes of a number that would be too great.
			for k := 1; k < 4; k++ {
				faulty(t, api.ErrShort, ahead+word(n)[:k])
				faulty(t, api.ErrShort, ahead+word(3)+word(n)[:k])
				faulty(t, api.ErrShort, ahead+word(3)+word(4)+word(n)[:k])
			}
		}
		for _, n := range []uint32{0, 1, 255, 256, 1<<31 - 2, most} {
			faulty(t, api.ErrShort, ahead+word(n))
			faulty(t, api.ErrShort, ahead+word(n)+word(n))
			for _, b := range []string{"", "x"} {
				for _, s := range []string{word(n) + word(0), word(0) + word(n), word(n) + word(n)} {
					if err := holdParse(t, ahead+s+word(uint32(len(b)))+b); err != api.OK {
						t.Errorf("the number %d: error %d", n, err)
					}
				}
			}
		}
	}
}

// P14.2: a length beyond what is left is too short, by one byte or by as many
// as may be.
func TestParseOfLengths(t *testing.T) {
	for _, ahead := range []string{"", printed([]api.Edit{edit(1, 2, "x")}), printed([]api.Edit{{}, {}})} {
		for _, left := range []int{0, 1, 2, 255, 256, 257, 70000} {
			b := varied(left)
			for _, n := range []uint32{uint32(left) + 1, uint32(left) + 2, uint32(left) + 256, 1 << 17, 1 << 24, 1<<31 - 2, most} {
				faulty(t, api.ErrShort, ahead+word(1)+word(2)+word(n)+b)
				faulty(t, api.ErrShort, ahead+word(most)+word(0)+word(n)+b)
			}
			if err := holdParse(t, ahead+word(1)+word(2)+word(uint32(left))+b); err != api.OK {
				t.Errorf("a B of %d bytes: error %d", left, err)
			}
		}
	}
}

// P14.2: of two faults the first one that is met is told.
func TestParseOfTwoFaults(t *testing.T) {
	good, big := printed([]api.Edit{edit(1, 2, "x")}), word(1<<31)
	forms := []string{big, word(0) + big, word(0) + word(0) + big}
	for _, ahead := range []string{"", good, good + good} {
		for _, form := range forms {
			for _, other := range forms {
				faulty(t, api.ErrForm, ahead+form+other)
				faulty(t, api.ErrForm, ahead+form+good+other)
			}
			for _, more := range []string{"x", word(0)[:3], word(0) + word(0) + word(9) + "x"} {
				faulty(t, api.ErrForm, ahead+form+more)
				faulty(t, api.ErrForm, ahead+form+word(0)+more)
			}
			// What would be a fault is within a B that is too short.
			faulty(t, api.ErrShort, ahead+word(0)+word(0)+word(most)+form)
			faulty(t, api.ErrShort, ahead+word(0)+word(0)+word(uint32(len(form)+1))+form)
			// And within one that is not.
			if err := holdParse(t, ahead+word(0)+word(0)+word(uint32(len(form)))+form); err != api.OK {
				t.Errorf("a B of %x: error %d", form, err)
			}
		}
	}
}

// P14.2: all rows of a few words, cut at the last one, against the chapter.
func TestParseOfAllShortRows(t *testing.T) {
	words := []string{"\x00\x00\x00\x00", "\x00\x00\x00\x01", "\x00\x00\x00\x04", "\x00\x00\x00\x05", "\x7f\xff\xff\xff", "\x80\x00\x00\x00", "\xff\xff\xff\xff"}
	rows, accepted := []string{""}, 0
	for range 5 {
		var next []string
		for _, row := range rows {
			for _, w := range words {
				next = append(next, row+w)
			}
		}
		for _, row := range next {
			for k := range 4 {
				if holdParse(t, row[:len(row)-k]) == api.OK {
					accepted++
				}
			}
		}
		rows = next
	}
	if accepted < 500 {
		t.Errorf("%d rows are encodings: the test is none", accepted)
	}
}

// P14.2: encodings with each byte turned to each other one, against the chapter.
func TestParseOfTurnedBytes(t *testing.T) {
	for _, l := range [][]api.Edit{{edit(1, 2, "x"), edit(3, 4, "abcdefghijklm"), edit(5, 6, "")}, {{}, edit(most, 256, varied(20)), edit(0, 0, "y")}} {
		b := []byte(printed(l))
		for i := range b {
			for d := 1; d < 256; d++ {
				b[i] ^= byte(d)
				if holdParse(t, string(b)) == api.OK {
					// What Parse reads is what Print makes.
					got, _ := delta.Parse(b)
					holdPrint(t, got...)
					if string(delta.Print(got)) != string(b) {
						t.Fatalf("Print of Parse of %x: %x", b, delta.Print(got))
					}
				}
				b[i] ^= byte(d)
			}
		}
	}
}
