package tape_test

import (
	"strings"
	"testing"

	"trestle/api"
	"trestle/tape"
)

// model is a tape by other means: durable and pending bytes are two texts.
type model struct {
	durable, pending string
	room, plan       int
	down             bool
}

// failing tells whether the operation that begins is the one that fails.
func (m *model) failing() bool {
	m.plan--
	m.down = m.plan == 0
	return m.down
}

func (m *model) write(s string) api.Errno {
	switch {
	case m.down:
		return api.ErrDown
	case s != "" && len(m.durable+m.pending+s) > m.room:
		return api.ErrFull
	}
	m.pending += s
	if m.failing() {
		return api.ErrDown
	}
	return api.OK
}

// settle makes a text the durable bytes, if the operation is not the one that fails.
func (m *model) settle(s string) api.Errno {
	if m.failing() {
		return api.ErrDown
	}
	m.durable, m.pending = s, ""
	return api.OK
}

func (m *model) hold() api.Errno {
	if m.down {
		return api.ErrDown
	}
	return m.settle(m.durable + m.pending)
}

func (m *model) cut(n int) api.Errno {
	all := m.durable + m.pending
	switch {
	case m.down:
		return api.ErrDown
	case n < 0 || n > len(all):
		return api.ErrArg
	}
	return m.settle(all[:n])
}

func (m *model) swap(s string) api.Errno {
	switch {
	case m.down:
		return api.ErrDown
	case len(s) > m.room:
		return api.ErrFull
	}
	return m.settle(s)
}

func (m *model) fall(keep int) {
	for i := range len(m.pending) {
		if i < keep {
			m.durable += m.pending[i : i+1]
		}
	}
	m.pending = ""
	m.down = true
}

func (m *model) rise() {
	if m.down {
		m.down, m.pending = false, ""
	}
}

// step is a call of a method, and of the model's.
type step struct {
	name string
	tape func(x *tape.Tape) api.Errno
	text func(m *model) api.Errno
}

// quiet is a step that answers nothing.
func quiet(name string, tp func(x *tape.Tape), text func(m *model)) step {
	return step{name, func(x *tape.Tape) api.Errno { tp(x); return api.OK }, func(m *model) api.Errno { text(m); return api.OK }}
}

func writeOf(parts ...string) step {
	var l [][]byte
	for _, s := range parts {
		l = append(l, []byte(s))
	}
	s := strings.Join(parts, "")
	return step{"Write(" + strings.Join(parts, ",") + ")", func(x *tape.Tape) api.Errno { return x.Write(l...) }, func(m *model) api.Errno { return m.write(s) }}
}

func swapOf(s string) step {
	return step{"Swap(" + s + ")", func(x *tape.Tape) api.Errno { return x.Swap([]byte(s)) }, func(m *model) api.Errno { return m.swap(s) }}
}

func cutTo(n int) step {
	return step{"Cut(" + string(rune('0'+n)) + ")", func(x *tape.Tape) api.Errno { return x.Cut(n) }, func(m *model) api.Errno { return m.cut(n) }}
}

func fuseAt(n int) step {
	return quiet("Fuse("+string(rune('0'+n))+")", func(x *tape.Tape) { x.Fuse(n) }, func(m *model) { m.plan = max(n, 0) })
}

func fallTo(n int) step {
	return quiet("Fall("+string(rune('0'+n))+")", func(x *tape.Tape) { x.Fall(n) }, func(m *model) { m.fall(n) })
}

func roomOf(n int) step {
	return quiet("Room("+string(rune('0'+n))+")", func(x *tape.Tape) { x.Room(n) }, func(m *model) { m.room = n })
}

func steps() []step {
	return []step{
		writeOf(), writeOf("a"), writeOf("b", "c"), writeOf("d", "", "ef"),
		{"Hold", func(x *tape.Tape) api.Errno { return x.Hold() }, func(m *model) api.Errno { return m.hold() }},
		cutTo(0), cutTo(1), cutTo(3), swapOf(""), swapOf("XY"), swapOf("ZUVW"),
		fuseAt(0), fuseAt(1), fuseAt(2), fallTo(0), fallTo(1), fallTo(9), roomOf(1), roomOf(5),
		quiet("Rise", func(x *tape.Tape) { x.Rise() }, func(m *model) { m.rise() }),
	}
}

// same does a step with both, and tells whether they are the same behind it.
func same(s step, x *tape.Tape, m *model) bool {
	return s.tape(x) == s.text(m) && string(x.Bytes()) == m.durable+m.pending && x.Held() == len(m.durable) && x.Down() == m.down
}

// P4.1, P4.2: each row of some steps, held against the model.
func TestEachRowOfSteps(t *testing.T) {
	all := steps()
	row := make([]int, 4)
	for n := 0; n < len(all)*len(all)*len(all)*len(all); n++ {
		x, m := tape.New(4), &model{room: 4}
		for i, k := 0, n; i < len(row); i, k = i+1, k/len(all) {
			row[i] = k % len(all)
			if !same(all[row[i]], x, m) {
				var names []string
				for _, j := range row[:i+1] {
					names = append(names, all[j].name)
				}
				t.Fatalf("%s: %q, %d durable, down: %v; want %q and %q, down: %v", strings.Join(names, " "), x.Bytes(), x.Held(), x.Down(), m.durable, m.pending, m.down)
			}
		}
	}
}

// P4.1, P4.2: long rows of steps on one tape, held against the model.
func TestLongRowsOfSteps(t *testing.T) {
	all := steps()
	for start := range uint32(50) {
		x, m := tape.New(8), &model{room: 8}
		r := start
		for i := range 2000 {
			r = r*1664525 + 1013904223
			if s := all[int(r>>16)%len(all)]; !same(s, x, m) {
				t.Fatalf("row %d, step %d, %s: %q, %d durable, down: %v; want %q and %q, down: %v", start, i, s.name, x.Bytes(), x.Held(), x.Down(), m.durable, m.pending, m.down)
			}
		}
	}
}
