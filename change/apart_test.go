package change_test

import (
	"bytes"
	"fmt"
	"slices"
	"sync"
	"testing"

	"trestle/api"
	"trestle/change"
)

// wreck writes over the lists of a change, and over what they have room for.
func wreck(c api.Change) {
	for l, i := c.Extras[:cap(c.Extras)], 0; i < len(l); i++ {
		l[i] = api.Extra{Key: "WRECKED", Value: "\x00"}
	}
	for l, i := c.Copies[:cap(c.Copies)], 0; i < len(l); i++ {
		l[i] = api.Copy{From: "wrecked", To: "wrecked"}
	}
}

// spoil writes over bytes, and over what they have room for beyond their length.
func spoil(b []byte) {
	b = b[:cap(b)]
	for i := range b {
		b[i] ^= 0x5a
	}
}

// roomy is a change whose lists are pieces of longer ones.
func roomy(c api.Change) (api.Change, []api.Extra, []api.Copy) {
	moreExtras := append(slices.Clone(c.Extras), extras("z", "y", "Z", "\xff")...)
	moreCopies := append(slices.Clone(c.Copies), copies("z", "y", "\n", "")...)
	c.Extras, c.Copies = moreExtras[:len(c.Extras)], moreCopies[:len(c.Copies)]
	return c, moreExtras, moreCopies
}

// all are changes of each kind.
func all(t *testing.T) []api.Change {
	return append(short(), sized(t, api.MaxBody), sized(t, api.MaxBody+1), withExtras("b", "a"), withExtras(numbered(40)...), withExtras(numbered(41)...), withCopies("b", "a"), withCopies(numbered(500)...), withCopies(numbered(501)...), api.Change{})
}

// P17.1, R3: what is handed in stays as it is, beyond its length too, does not
// count there, and what a caller does with it afterwards changes nothing.
func TestHandedIn(t *testing.T) {
	for _, c := range all(t) {
		mine, moreExtras, moreCopies := roomy(c)
		extrasBefore, copiesBefore := slices.Clone(moreExtras), slices.Clone(moreCopies)
		if change.Right(mine) != valid(c) {
			t.Errorf("Right of %s: not %t", told(c), valid(c))
		}
		b, err := change.Print(mine)
		node := change.Node(mine)
		value, ok := change.Get(mine, "y")
		if !slices.Equal(moreExtras, extrasBefore) || !slices.Equal(moreCopies, copiesBefore) {
			t.Errorf("%s: what was handed in is not what it was", told(c))
		}
		if value != "" || ok {
			t.Errorf("Get of %s looks beyond its extras", told(c))
		}
		wreck(mine)
		if valid(c) && (err != api.OK || !bytes.Equal(b, encoded(c)) || node != nodeOf(c)) || !valid(c) && (err != api.ErrForm || len(b) != 0 || node != api.Id{}) {
			t.Errorf("what is told of %s hangs on what was handed in", told(c))
		}
		text := append(encoded(c), "\x00more\n"...)
		whole := bytes.Clone(text)
		n := len(encoded(c))
		back, err := change.Parse(text[:n], c.P1, c.P2)
		if !bytes.Equal(text, whole) {
			t.Errorf("Parse has written to %.200q", whole)
		}
		spoil(text)
		if valid(c) && (err != api.OK || !same(back, c)) || !valid(c) && (err != api.ErrForm || !same(back, api.Change{})) {
			t.Errorf("what Parse told of %.200q hangs on what was handed in", whole)
		}
	}
}

// P17.1, R3: what is handed out is new memory, and writing to it changes nothing.
func TestHandedOut(t *testing.T) {
	for _, c := range all(t) {
		if !valid(c) {
			continue
		}
		b, _ := change.Print(c)
		again, _ := change.Print(c)
		spoil(b)
		if !bytes.Equal(again, encoded(c)) {
			t.Errorf("two answers of Print share their bytes")
		}
		back, _ := change.Parse(again, c.P1, c.P2)
		other, _ := change.Parse(again, c.P1, c.P2)
		wreck(back)
		if !same(other, c) || !bytes.Equal(again, encoded(c)) {
			t.Errorf("two answers of Parse share their lists")
		}
		spoil(again)
		wreck(other)
		accept(t, c)
	}
}

// P17.1, R2: calls at one time have no influence on each other.
func TestAtOneTime(t *testing.T) {
	changes := all(t)
	var wait sync.WaitGroup
	faults := make([]string, 8)
	for i := range faults {
		wait.Go(func() {
			for j := range 3 * len(changes) {
				c := changes[(i+j)%len(changes)]
				want, ok := parsed(encoded(c), c.P1, c.P2)
				b, err := change.Print(c)
				back, backErr := change.Parse(encoded(c), c.P1, c.P2)
				if (err == api.OK) != valid(c) || change.Right(c) != valid(c) || valid(c) && !bytes.Equal(b, encoded(c)) || (backErr == api.OK) != ok || !same(back, want) {
					faults[i] = fmt.Sprintf("Print of %s: error %d; Parse: error %d", told(c), err, backErr)
				}
			}
		})
	}
	wait.Wait()
	for _, s := range faults {
		if s != "" {
			t.Error(s)
		}
	}
}
