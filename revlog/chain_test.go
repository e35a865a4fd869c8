package revlog_test

import (
	"fmt"
	"slices"
	"strings"
	"testing"

	"trestle/api"
	"trestle/delta"
	"trestle/revlog"
)

// holdChains adds texts without parents and holds their chains against those
// that are known.
func holdChains(t *testing.T, texts []string, want ...int) {
	t.Helper()
	l, m := filled(t, texts...)
	var got []int
	for n := range texts {
		got = append(got, l.Chain(n))
	}
	if !slices.Equal(got, want) || !slices.Equal(m.chains, want) {
		t.Errorf("the chains of %.20q: %d, of the model %d; want %d", texts, got, m.chains, want)
	}
}

// P15.2: a row of texts, each a little longer than the one ahead, past MaxChain
// and past it again.
func TestLongChains(t *testing.T) {
	grown := []func(string, int) string{
		func(s string, n int) string { return s + fmt.Sprint(n) },
		func(s string, n int) string { return fmt.Sprint(n) + s },
		func(s string, n int) string { return s[:20] + fmt.Sprint(n) + s[20:] },
	}
	for _, grow := range grown {
		l, m := filled(t)
		text := varied(1, 40)
		for n := range 5*(api.MaxChain+1) + 3 {
			add(t, l, m, text, zero, zero)
			if want := n % (api.MaxChain + 1); l.Chain(n) != want || m.chains[n] != want {
				t.Fatalf("Chain(%d): %d, of the model %d; want %d", n, l.Chain(n), m.chains[n], want)
			}
			hold(t, l, m)
			text = grow(text, n)
		}
	}
}

// P15.2: a row of texts, each a little shorter than the one ahead, until a delta
// is no shorter than the text.
func TestShrinkingChains(t *testing.T) {
	var texts []string
	var want []int
	for n := 30; n >= 0; n-- {
		texts = append(texts, strings.Repeat("x", n))
		chain := 0
		if n < 30 && n >= 13 {
			chain = (30 - n) % (api.MaxChain + 1)
		}
		want = append(want, chain)
	}
	holdChains(t, texts, want...)
}

// P15.2: a chain begins anew where a text has nothing of the one ahead.
func TestBrokenChain(t *testing.T) {
	a, b := varied(1, 50), varied(2, 50)
	holdChains(t, []string{a, a + "1", a + "2", b, b + "1", a + "3", a + "4"}, 0, 1, 2, 0, 1, 0, 1)
	holdChains(t, []string{a, a + "1", "", a + "2", a + "3", "x", a + "4"}, 0, 1, 0, 0, 1, 0, 0)
	// Broken where it would have to begin anew anyway, one ahead of it and one behind it.
	for _, at := range []int{api.MaxChain, api.MaxChain + 1, api.MaxChain + 2} {
		var texts []string
		var want []int
		for n := range 25 {
			s := a
			if n >= at {
				s = b
			}
			texts = append(texts, s+fmt.Sprint(n))
			begin := 0
			if n >= at {
				begin = at
			}
			want = append(want, (n-begin)%(api.MaxChain+1))
		}
		holdChains(t, texts, want...)
	}
}

// P15.2: a text whose encoded delta has fewer bytes than it, as many, or more.
func TestLengthOfDelta(t *testing.T) {
	a := "abcdefghijklmnopqrstuvwxyz0123456789"
	for _, r := range []struct {
		before, text string
		want         int
	}{
		// Alike at the beginning: 12 bytes of numbers, and as many of the text as are not alike.
		{a, a[:13] + "X", 1}, {a, a[:12] + "X", 0}, {a, a[:11] + "X", 0}, {a, a[:13] + "XYZ", 1}, {a, a[:12] + "XYZ", 0}, {a, a[:11] + "XYZ", 0},
		// At the end.
		{a, "X" + a[len(a)-13:], 1}, {a, "X" + a[len(a)-12:], 0}, {a, "X" + a[len(a)-11:], 0},
		// At both.
		{a, a[:6] + "X" + a[len(a)-7:], 1}, {a, a[:6] + "X" + a[len(a)-6:], 0}, {a, a[:5] + "X" + a[len(a)-6:], 0}, {a, a[:1] + "X" + a[len(a)-12:], 1}, {a, a[:12] + "X" + a[len(a)-1:], 1},
		// Nothing but taken away: 12 bytes.
		{a, a[:14], 1}, {a, a[:13], 1}, {a, a[:12], 0}, {a, a[:11], 0}, {a, a[:1], 0}, {a, "", 0}, {a, a[len(a)-13:], 1}, {a, a[len(a)-12:], 0}, {a, a[:5] + a[len(a)-8:], 1}, {a, a[:5] + a[len(a)-7:], 0},
		// Nothing but put in.
		{a[:13], a[:14], 1}, {a[:12], a[:13], 0}, {a[:13], a, 1}, {a[:12], a, 0}, {a[:13], a[:13] + a, 1}, {a[:12], a[:12] + a, 0},
		// What is alike in the midst, or overlaps, does not count twice.
		{a, "X" + a[1:35] + "X", 0}, {strings.Repeat("x", 12), strings.Repeat("x", 25), 0}, {strings.Repeat("x", 13), strings.Repeat("x", 26), 1}, {strings.Repeat("x", 12), strings.Repeat("x", 13), 0}, {strings.Repeat("x", 13), strings.Repeat("x", 14), 1},
		{"", "", -1}, {"", "x", 0}, {"", a, 0}, {"x", "y", 0}, {"x", "", 0}, {a, strings.ToUpper(a), 0},
	} {
		l, m := filled(t, r.before, r.text)
		n := len(delta.Print(delta.Make([]byte(r.before), []byte(r.text))))
		if l.Chain(1) != r.want || r.want >= 0 && (n < len(r.text)) != (r.want == 1) {
			t.Errorf("%q behind %q, whose delta has %d bytes: Chain %d; want %d", r.text, r.before, n, l.Chain(1), r.want)
		}
		hold(t, l, m)
	}
}

// P15.2: all lengths of what is alike at the beginning, at the end, of what is
// between and of what is taken away.
func TestAllLengthsOfDelta(t *testing.T) {
	a, b := varied(1, 40), varied(2, 40)
	for start := range 15 {
		for end := range 15 {
			for between := range 4 {
				for gone := range 4 {
					before := a[:start] + b[:gone] + a[40-end:]
					text := a[:start] + b[10:10+between] + a[40-end:]
					want := 0
					if start+end > 12 {
						want = 1
					}
					if before == text {
						continue
					}
					if l, _ := filled(t, before, text); l.Chain(1) != want {
						t.Errorf("%d, %d, %d, %d: Chain %d; want %d", start, end, between, gone, l.Chain(1), want)
					}
				}
			}
		}
	}
}

// P15.2: long texts, which differ by one byte or by all but a few.
func TestLongTexts(t *testing.T) {
	a, b := varied(1, api.MaxBody), varied(2, api.MaxBody)
	n := api.MaxBody
	holdChains(t, []string{a, a[:n-1], a[:n-2], a[1 : n-2], a[2 : n-2]}, 0, 1, 2, 3, 4)
	for _, r := range []struct {
		alike, want int
	}{{13, 1}, {12, 0}, {11, 0}, {n - 1, 1}, {n / 2, 1}} {
		holdChains(t, []string{a, a[:r.alike] + b[r.alike:]}, 0, r.want)
		holdChains(t, []string{a, b[:n-r.alike] + a[n-r.alike:]}, 0, r.want)
	}
	holdChains(t, []string{strings.Repeat("x", n), strings.Repeat("x", 13), strings.Repeat("x", n-1), strings.Repeat("x", 12), strings.Repeat("x", n-2)}, 0, 1, 2, 0, 0)
}

// P15.2: a text without bytes is stored completely, whatever is ahead of it, and
// what is added behind it too.
func TestNoBytesInChain(t *testing.T) {
	a := varied(1, 50)
	holdChains(t, []string{"", a, a + "x"}, 0, 0, 1)
	holdChains(t, []string{a, "", a + "x", a + "y"}, 0, 0, 0, 1)
	holdChains(t, []string{"x", "", "y"}, 0, 0, 0)
	l, m := filled(t, "", a)
	for _, p := range [][2]api.Id{{m.nodes[0], zero}, {zero, m.nodes[0]}, {m.nodes[1], zero}, {m.nodes[0], m.nodes[1]}} {
		// Its delta behind another one without bytes has no bytes either: as many as it.
		add(t, l, m, "", p[0], p[1])
		if l.Chain(l.Len()-1) != 0 {
			t.Errorf("Chain: %d", l.Chain(l.Len()-1))
		}
	}
	hold(t, l, m)
}

// P15.2: a text equal to the one directly before it, with other parents, has a
// delta without bytes, which is shorter than any text but one without bytes.
func TestEqualTexts(t *testing.T) {
	for _, text := range []string{"x", "\x00", "ab", varied(1, 12), varied(1, 13), varied(1, api.MaxBody)} {
		l, m := filled(t, text)
		for n := 1; n < 30; n++ {
			add(t, l, m, text, m.nodes[n-1], m.nodes[n/3])
			if l.Chain(n) != n%(api.MaxChain+1) {
				t.Errorf("%d bytes: Chain(%d): %d", len(text), n, l.Chain(n))
			}
		}
		hold(t, l, m)
	}
}

// P15.2: a delta is of the text that was added directly before, not of a parent.
func TestNotOfParent(t *testing.T) {
	a, b := varied(1, 50), varied(2, 50)
	l, m := filled(t, a, b)
	first, second := m.nodes[0], m.nodes[1]
	for n, r := range []struct {
		row
		want int
	}{
		{row{a + "1", first, zero}, 0}, // the second text is directly before it
		{row{a + "2", second, zero}, 1},
		{row{a + "3", zero, second}, 2},
		{row{b + "1", second, zero}, 0},
		{row{a + "4", first, first}, 0},
		{row{b + "2", second, second}, 0},
		{row{b + "3", first, first}, 1},
		{row{b + "3", first, second}, 2},
		{row{a, first, second}, 0},
		{row{a, second, first}, 1},
		{row{a + "4", zero, zero}, 2},
	} {
		add(t, l, m, r.text, r.p1, r.p2)
		if l.Chain(n+2) != r.want {
			t.Errorf("Chain(%d): %d; want %d", n+2, l.Chain(n+2), r.want)
		}
	}
	hold(t, l, m)
}

// P15.2: a text that is added again, or is refused, does not stand between two
// others.
func TestNothingBetween(t *testing.T) {
	a, b := varied(1, 50), varied(2, 50)
	l, m := filled(t, a, b)
	for n := 2; n < 40; n++ {
		want(t, l, row{a, zero, zero}, api.OK)
		want(t, l, row{b, zero, zero}, api.OK)
		want(t, l, row{b, all(1), zero}, api.ErrNone)
		want(t, l, row{a, zero, all(1)}, api.ErrNone)
		want(t, l, row{a + varied(3, api.MaxBody), zero, zero}, api.ErrLimit)
		add(t, l, m, b+fmt.Sprint(n), zero, zero)
		if l.Chain(n) != (n-1)%(api.MaxChain+1) {
			t.Errorf("Chain(%d): %d", n, l.Chain(n))
		}
	}
	hold(t, l, m)
	// What is added again stays where it is, stored as it was.
	l, m = filled(t, a, a+"1", b)
	want(t, l, row{a + "1", zero, zero}, api.OK)
	add(t, l, m, a+"2", zero, zero)
	if l.Chain(1) != 1 || l.Chain(3) != 0 || l.Len() != 4 {
		t.Errorf("Chain(1): %d; Chain(3): %d; %d texts", l.Chain(1), l.Chain(3), l.Len())
	}
}

// P15.1, P15.2: each text is told as it was added after each Add, however long
// its chain and whatever was added behind it.
func TestTextsStay(t *testing.T) {
	text := varied(1, 200)
	l, m := filled(t)
	for n := range 60 {
		at := n * 7 % len(text)
		switch n % 6 {
		case 0:
			text += varied(uint32(n), 9)
		case 1:
			text = text[:at] + text[min(at+4, len(text)):]
		case 2:
			text = text[:at] + "put in" + text[at:]
		case 3:
			text = text[:len(text)-2]
		case 4:
			text = varied(uint32(n), 2) + text
		case 5:
			if n%4 == 3 {
				text = text[at:] + text[:at]
			}
			text = text[3:]
		}
		p := zero
		if n > 3 {
			p = m.nodes[n-4]
		}
		add(t, l, m, text, p, zero)
		hold(t, l, m)
	}
	if longest := slices.Max(m.chains); longest != api.MaxChain {
		t.Errorf("the longest chain is %d", longest)
	}
}

// P15.2: a log with as many texts as may be, whose chains are as long as may be.
func TestFullOfChains(t *testing.T) {
	l, m := full(t, 0)
	hold(t, l, m)
	for _, chain := range []int{0, 1, api.MaxChain} {
		if !slices.Contains(m.chains, chain) {
			t.Errorf("no text has the Chain %d", chain)
		}
	}
	node, _ := l.Node(api.MaxChanges - 1)
	if b, err := l.Text(node); string(b) != m.rows[api.MaxChanges-1].text || err != api.OK || revlog.Node(b, m.nodes[api.MaxChanges-2], m.nodes[(api.MaxChanges-1)/2]) != node {
		t.Errorf("the last text: %q, error %d", b, err)
	}
}
