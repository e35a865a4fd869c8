package delta_test

import (
	"math"
	"slices"
	"strings"
	"testing"

	"trestle/api"
	"trestle/delta"
)

// right is what the chapter says of a list of edits that is valid for a text of
// n bytes.
func right(l []api.Edit, n int) bool {
	for i, e := range l {
		if !(0 <= e.From && e.From <= e.To && e.To <= n) || i > 0 && !(e.From >= l[i-1].To) {
			return false
		}
	}
	return true
}

// applied is a with all edits of a valid list applied: from the last one on,
// so that no place moves ahead of its edit.
func applied(a string, l []api.Edit) string {
	for _, e := range slices.Backward(l) {
		a = a[:e.From] + string(e.B) + a[e.To:]
	}
	return a
}

// holdApply holds what Apply answers against the chapter, and tells the error.
func holdApply(t *testing.T, a string, l []api.Edit) api.Errno {
	t.Helper()
	want, wantErr := "", api.ErrOrder
	if right(l, len(a)) {
		want, wantErr = applied(a, l), api.OK
	}
	if len(want) > 65536 {
		want, wantErr = "", api.ErrLimit
	}
	got, err := delta.Apply([]byte(a), l)
	if string(got) != want || err != wantErr {
		t.Fatalf("Apply to %d bytes %.20q of %s: %d bytes %.20q, error %d; want %d bytes %.20q, error %d", len(a), a, told(l), len(got), got, err, len(want), want, wantErr)
	}
	return err
}

// applies expects what Apply makes of the text "abcdef".
func applies(t *testing.T, want string, l ...api.Edit) {
	t.Helper()
	if got, err := delta.Apply([]byte("abcdef"), l); string(got) != want || err != api.OK {
		t.Errorf("Apply of %s: %q, error %d; want %q", told(l), got, err, want)
	}
	if err := holdApply(t, "abcdef", l); err != api.OK {
		t.Errorf("the test's own reading of %s: error %d", told(l), err)
	}
}

// refuses expects an error of Apply, and nothing beside it.
func refuses(t *testing.T, a string, want api.Errno, l ...api.Edit) {
	t.Helper()
	if got, err := delta.Apply([]byte(a), l); len(got) != 0 || err != want {
		t.Errorf("Apply to %d bytes of %s: %d bytes, error %d; want %d", len(a), told(l), len(got), err, want)
	}
}

// P14.1: edits that are valid.
func TestApply(t *testing.T) {
	applies(t, "abcdef")
	applies(t, "abcdef", []api.Edit{}...)
	applies(t, "aXcdef", edit(1, 2, "X"))
	applies(t, "aXYZf", edit(1, 5, "XYZ"))
	applies(t, "abcdef", edit(1, 3, "bc"))
	applies(t, "abcdef", edit(3, 3, ""))
	applies(t, "abcdef", edit(0, 0, ""), edit(0, 0, ""), edit(6, 6, ""), edit(6, 6, ""))
	applies(t, "af", edit(1, 5, ""))
	// At the beginning, and at the end.
	applies(t, "Xabcdef", edit(0, 0, "X"))
	applies(t, "abcdefX", edit(6, 6, "X"))
	applies(t, "Xbcdef", edit(0, 1, "X"))
	applies(t, "abcdeX", edit(5, 6, "X"))
	applies(t, "XabcdefY", edit(0, 0, "X"), edit(6, 6, "Y"))
	applies(t, "XbcdeY", edit(0, 1, "X"), edit(5, 6, "Y"))
	// All of it.
	applies(t, "X", edit(0, 6, "X"))
	applies(t, "", edit(0, 6, ""))
	applies(t, "", edit(0, 3, ""), edit(3, 6, ""))
	applies(t, "UVWXYZ", edit(0, 1, "U"), edit(1, 2, "V"), edit(2, 3, "W"), edit(3, 4, "X"), edit(4, 5, "Y"), edit(5, 6, "Z"))
	applies(t, "XYZ", edit(0, 0, "X"), edit(0, 6, "Y"), edit(6, 6, "Z"))
	// Edits that touch one another, and more than one at one place.
	applies(t, "aXYef", edit(1, 2, "X"), edit(2, 4, "Y"))
	applies(t, "aXYZdef", edit(1, 2, "X"), edit(2, 2, "Y"), edit(2, 3, "Z"))
	applies(t, "abcXYZdef", edit(3, 3, "X"), edit(3, 3, "Y"), edit(3, 3, "Z"))
	applies(t, "XYabcdef", edit(0, 0, "X"), edit(0, 0, "Y"))
	applies(t, "abcdefXY", edit(6, 6, "X"), edit(6, 6, ""), edit(6, 6, "Y"))
	applies(t, "abXYZcef", edit(2, 2, "X"), edit(2, 2, "YZ"), edit(3, 4, ""))
	// What is put in is no text for the edits behind it.
	applies(t, "bbbcbaef", edit(0, 1, "bb"), edit(3, 4, "ba"))
	applies(t, "abc\x00\xff\xc3def", edit(3, 3, "\x00\xff\xc3"))
	var many []api.Edit
	for i := range 1000 {
		many = append(many, edit(i/200, i/200, string(rune('A'+i%26))))
	}
	applies(t, applied("abcdef", many), many...)
}

// P14.1: a text without bytes has one place.
func TestApplyToNothing(t *testing.T) {
	for _, a := range [][]byte{nil, {}, []byte("abc")[:0]} {
		for _, r := range []struct {
			l    []api.Edit
			want string
			err  api.Errno
		}{
			{nil, "", api.OK}, {[]api.Edit{{}}, "", api.OK}, {[]api.Edit{edit(0, 0, "x")}, "x", api.OK}, {[]api.Edit{edit(0, 0, "x"), {}, edit(0, 0, "y")}, "xy", api.OK},
			{[]api.Edit{edit(0, 1, "x")}, "", api.ErrOrder}, {[]api.Edit{edit(1, 1, "x")}, "", api.ErrOrder}, {[]api.Edit{edit(0, 0, "x"), edit(1, 1, "y")}, "", api.ErrOrder}, {[]api.Edit{edit(-1, 0, "x")}, "", api.ErrOrder}, {[]api.Edit{edit(0, -1, "x")}, "", api.ErrOrder},
		} {
			if got, err := delta.Apply(a, r.l); string(got) != r.want || err != r.err {
				t.Errorf("Apply to nothing of %s: %q, error %d; want %q, error %d", told(r.l), got, err, r.want, r.err)
			}
		}
	}
}

// P14.1: all lists of up to two edits, and many of three, for short texts.
func TestApplyOfAllShortLists(t *testing.T) {
	accepted := 0
	for n := range 5 {
		var few, more []api.Edit
		for from := -1; from <= n+1; from++ {
			for to := -1; to <= n+1; to++ {
				few = append(few, edit(from, to, "X"))
				more = append(more, edit(from, to, ""), edit(from, to, "Y"), edit(from, to, "uvwxyz"))
			}
		}
		a := "abcd"[:n]
		hold := func(l ...api.Edit) {
			if holdApply(t, a, l) == api.OK {
				accepted++
			}
		}
		hold()
		for _, x := range more {
			hold(x)
			for _, y := range more {
				hold(x, y)
			}
		}
		for _, x := range few {
			for _, y := range few {
				for _, z := range few {
					hold(x, y, z)
				}
			}
		}
	}
	if accepted < 1500 {
		t.Errorf("%d lists are valid: the test is none", accepted)
	}
}

// faults are edits that are not valid for the text "abcdef" where the edit
// ahead of them ends at the byte 4.
func faults() []api.Edit {
	l := []api.Edit{edit(-1, 4, "x"), edit(-1, -1, ""), edit(4, -1, "x"), edit(0, -1, ""), edit(4, 7, "x"), edit(7, 7, ""), edit(7, 4, "x"), edit(5, 4, "x"), edit(6, 5, ""), edit(6, 0, "x"), edit(3, 4, "x"), edit(3, 3, ""), edit(0, 6, "x"), edit(0, 0, ""), edit(3, 7, "x"), edit(7, 3, "x"), edit(-1, 7, "x")}
	for _, n := range oddNumbers {
		l = append(l, edit(n, 5, "x"), edit(5, n, "x"), edit(n, n, ""), edit(n, math.MaxInt, "x"), edit(math.MinInt, n, ""))
	}
	return l
}

// P14.1: each fault of an edit, with edits ahead of it and behind it.
func TestApplyOfFaults(t *testing.T) {
	for _, bad := range faults() {
		first := edit(0, 4, "good")
		refuses(t, "abcdef", api.ErrOrder, first, bad)
		refuses(t, "abcdef", api.ErrOrder, first, edit(4, 4, ""), bad)
		refuses(t, "abcdef", api.ErrOrder, edit(1, 4, ""), bad, edit(6, 6, "good"))
		refuses(t, "abcdef", api.ErrOrder, edit(1, 2, "x"), edit(3, 4, ""), bad, edit(6, 6, ""))
		refuses(t, "abcdef", api.ErrOrder, first, bad, bad)
		alone := []api.Edit{bad}
		if !right(alone, 6) {
			refuses(t, "abcdef", api.ErrOrder, bad)
			refuses(t, "abcdef", api.ErrOrder, bad, edit(6, 6, "good"))
			refuses(t, "abcdef", api.ErrOrder, bad, bad)
		} else {
			applies(t, applied("abcdef", alone), bad)
		}
	}
}

// P14.1: numbers as great and as small as an int may be, of all edits.
func TestApplyOfOddNumbers(t *testing.T) {
	for _, from := range append(slices.Clone(oddNumbers), 0, 3, 6, 7) {
		for _, to := range append(slices.Clone(oddNumbers), 0, 3, 6, 7) {
			holdApply(t, "abcdef", []api.Edit{edit(from, to, "x")})
			holdApply(t, "abcdef", []api.Edit{edit(0, 3, "x"), edit(from, to, "")})
			holdApply(t, "abcdef", []api.Edit{edit(from, to, "x"), edit(from, to, "y")})
			holdApply(t, "", []api.Edit{edit(from, to, "x")})
		}
	}
}

// P14.1: the places of an edit are as many as the text has bytes, whatever the
// limit of the result is.
func TestApplyToLongTexts(t *testing.T) {
	for _, n := range []int{255, 256, 257, api.MaxBody - 1, api.MaxBody, api.MaxBody + 1, 1 << 17, 1<<20 + 1} {
		a := varied(n)
		for _, l := range [][]api.Edit{
			{edit(0, n, "all")}, {edit(n, n, "")}, {edit(n-1, n, "")}, {edit(0, 1, ""), edit(n-1, n, "x")}, {edit(100, n-100, "")}, {edit(100, n, ""), edit(n, n, "x")},
			{edit(0, n+1, "")}, {edit(n+1, n+1, "")}, {edit(n, n-1, "")}, {edit(0, n, ""), edit(n-1, n, "")}, {edit(n, n+1, "x")},
		} {
			holdApply(t, a, l)
		}
	}
}

// P14.1: a result has MaxBody bytes and no more, whichever edits it is
// reached by.
func TestApplyLimit(t *testing.T) {
	full, half := varied(api.MaxBody), varied(api.MaxBody/2)
	for _, r := range []struct {
		a    string
		l    []api.Edit
		over int // bytes of the result beyond MaxBody
	}{
		{full, nil, 0}, {full + "x", nil, 1}, {full + full, nil, api.MaxBody}, {full, []api.Edit{{}}, 0}, {full + "x", []api.Edit{{}}, 1},
		{"", []api.Edit{edit(0, 0, full)}, 0}, {"", []api.Edit{edit(0, 0, full+"x")}, 1}, {"", []api.Edit{edit(0, 0, full[1:])}, -1}, {"abcdef", []api.Edit{edit(0, 6, full)}, 0}, {"abcdef", []api.Edit{edit(0, 6, full+"x")}, 1},
		{"abcdef", []api.Edit{edit(6, 6, full[6:])}, 0}, {"abcdef", []api.Edit{edit(6, 6, full[5:])}, 1}, {"abcdef", []api.Edit{edit(0, 0, full[6:])}, 0}, {"abcdef", []api.Edit{edit(0, 0, full[5:])}, 1}, {"abcdef", []api.Edit{edit(2, 4, full[4:])}, 0}, {"abcdef", []api.Edit{edit(2, 4, full[3:])}, 1},
		{full, []api.Edit{edit(9, 9, "x")}, 1}, {full, []api.Edit{edit(9, 10, "x")}, 0}, {full, []api.Edit{edit(9, 10, "xy")}, 1}, {full, []api.Edit{edit(0, 0, "x")}, 1}, {full, []api.Edit{edit(api.MaxBody, api.MaxBody, "x")}, 1}, {full, []api.Edit{edit(0, api.MaxBody, full)}, 0},
		// More bytes are taken away behind than are put in ahead, and the other way.
		{full, []api.Edit{edit(0, 0, "xyz"), edit(9, 12, "")}, 0}, {full, []api.Edit{edit(0, 0, "xyz"), edit(9, 11, "")}, 1}, {full, []api.Edit{edit(0, 3, ""), edit(9, 9, "xyz")}, 0}, {full, []api.Edit{edit(0, 2, ""), edit(9, 9, "xyz")}, 1}, {full, []api.Edit{edit(0, 0, full), edit(0, api.MaxBody, "")}, 0},
		{full, []api.Edit{edit(0, 0, full), edit(1, api.MaxBody, "")}, 1}, {full + full, []api.Edit{edit(0, api.MaxBody, "")}, 0}, {full + full, []api.Edit{edit(1, api.MaxBody, "")}, 1}, {full + full, []api.Edit{edit(api.MaxBody, 2*api.MaxBody, "")}, 0},
		{"", []api.Edit{edit(0, 0, half), edit(0, 0, half)}, 0}, {"", []api.Edit{edit(0, 0, half), edit(0, 0, half), edit(0, 0, "x")}, 1}, {"a", []api.Edit{edit(0, 0, half), edit(0, 0, half)}, 1}, {"a", []api.Edit{edit(0, 0, half), edit(0, 1, half)}, 0}, {"a", []api.Edit{edit(0, 0, half), edit(1, 1, half[1:])}, 0},
		{half, []api.Edit{edit(5, 5, half[1:]), edit(7, 7, "x")}, 0}, {half, []api.Edit{edit(5, 5, half[1:]), edit(7, 7, "xy")}, 1}, {half, []api.Edit{edit(5, 5, half[1:]), edit(5, 5, "x"), edit(5, 5, "")}, 0}, {half, []api.Edit{edit(5, 5, half), edit(5, 5, ""), edit(5, 5, "x")}, 1},
	} {
		if got := len(applied(r.a, r.l)) - 65536; got != r.over {
			t.Fatalf("the test's own reading of %s: %d bytes beyond the limit; want %d", told(r.l), got, r.over)
		}
		want := api.OK
		if r.over > 0 {
			want = api.ErrLimit
		}
		if err := holdApply(t, r.a, r.l); err != want {
			t.Errorf("Apply to %d bytes of %s: error %d; want %d", len(r.a), told(r.l), err, want)
		}
	}
	for _, n := range []int{64, 65, 256, 257} {
		var l []api.Edit
		for range n {
			l = append(l, edit(3, 3, varied(256)))
		}
		err := holdApply(t, "abcdef", append(l, edit(4, 6, "")))
		if want := n*256+4 <= 65536; (err == api.OK) != want {
			t.Errorf("%d edits of 256 bytes: error %d", n, err)
		}
		if err := holdApply(t, "", make([]api.Edit, n*300)); err != api.OK {
			t.Errorf("%d edits without bytes: error %d", n*300, err)
		}
	}
}

// R7: the bytes of a result are too many, whatever becomes of their number in
// fewer bits.
func TestApplyOfTooManyBytes(t *testing.T) {
	b := make([]byte, 1<<20)
	for _, n := range []int{1, 2, 1 << 11, 1<<11 + 1, 1 << 12, 1<<12 + 1, 1 << 13} {
		l := slices.Repeat([]api.Edit{{From: 1, To: 1, B: b}}, n)
		refuses(t, "abcdef", api.ErrLimit, l...)
		refuses(t, "abcdef", api.ErrLimit, append(l, edit(1, 6, ""))...)
		refuses(t, "abcdef", api.ErrOrder, append(l, edit(0, 6, ""))...)
	}
}

// P14.1: edits that are not valid are told of ahead of a result that is too
// long, whichever stands first.
func TestApplyOfBothErrors(t *testing.T) {
	full := varied(api.MaxBody)
	for _, bad := range faults() {
		big := edit(0, 4, full)
		refuses(t, "abcdef", api.ErrOrder, big, bad)
		refuses(t, "abcdef", api.ErrOrder, big, big, bad)
		refuses(t, "abcdef", api.ErrOrder, edit(0, 4, full+full), bad, edit(6, 6, full))
		refuses(t, "abcdef", api.ErrOrder, edit(0, 4, ""), bad, edit(6, 6, full+"x"))
		refuses(t, "abcdef", api.ErrOrder, edit(0, 4, ""), edit(bad.From, bad.To, full+"x"))
		refuses(t, "abcdef", api.ErrOrder, edit(0, 4, ""), edit(bad.From, bad.To, full), edit(6, 6, full))
	}
	for _, a := range []string{full + "x", full + full, strings.Repeat("a", 1<<20)} {
		n := len(a)
		refuses(t, a, api.ErrLimit)
		refuses(t, a, api.ErrLimit, edit(n, n, "x"))
		for _, bad := range []api.Edit{edit(-1, 0, ""), edit(0, -1, ""), edit(0, n+1, ""), edit(n+1, n+1, ""), edit(2, 1, ""), edit(math.MinInt, math.MaxInt, ""), edit(math.MaxInt, math.MinInt, "")} {
			refuses(t, a, api.ErrOrder, bad)
			refuses(t, a, api.ErrOrder, edit(0, 1, "x"), bad)
			refuses(t, a, api.ErrOrder, bad, edit(n, n, ""))
			refuses(t, a, api.ErrOrder, edit(n, n, "x"), bad)
		}
	}
}
