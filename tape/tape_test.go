package tape_test

import (
	"bytes"
	"math"
	"strings"
	"testing"

	"trestle/api"
	"trestle/tape"
)

// expect holds a tape against what it should be.
func expect(t *testing.T, what string, x *tape.Tape, b string, held int, down bool) {
	t.Helper()
	if got := x.Bytes(); string(got) != b || x.Held() != held || x.Down() != down {
		t.Errorf("%s: %d bytes %.40q, %d durable, down: %v; want %d bytes %.40q, %d durable, down: %v", what, len(got), got, x.Held(), x.Down(), len(b), b, held, down)
	}
}

// answer holds the answer of a call against what it should be.
func answer(t *testing.T, what string, got, want api.Errno) {
	t.Helper()
	if got != want {
		t.Errorf("%s: error %d, want %d", what, got, want)
	}
}

// waiting is a tape with the durable bytes "held" and the pending ones "wait".
func waiting(t *testing.T) *tape.Tape {
	t.Helper()
	x := tape.New(100)
	answer(t, "Write", x.Write([]byte("held")), api.OK)
	answer(t, "Hold", x.Hold(), api.OK)
	answer(t, "Write", x.Write([]byte("wait")), api.OK)
	return x
}

// capacities has numbers for a capacity, and what each counts as.
var capacities = []struct{ n, room int }{
	{math.MinInt, 0}, {-api.MaxFile, 0}, {-1, 0}, {0, 0}, {1, 1}, {2, 2}, {100, 100},
	{api.MaxFile - 1, api.MaxFile - 1}, {api.MaxFile, api.MaxFile}, {api.MaxFile + 1, api.MaxFile}, {1 << 40, api.MaxFile}, {math.MaxInt, api.MaxFile},
}

// P4.1: New makes an empty tape that is up.
func TestNewIsEmptyAndUp(t *testing.T) {
	for _, r := range capacities {
		expect(t, "a new tape", tape.New(r.n), "", 0, false)
	}
}

// P4.1: the capacity of New and of Room: as many bytes fit, and not one more,
// neither in a Write, in one part or in some, nor in a Swap.
func TestCapacity(t *testing.T) {
	for _, r := range capacities {
		full := make([]byte, r.room+1)
		set := tape.New(7)
		set.Room(r.n)
		for _, x := range []*tape.Tape{tape.New(r.n), set} {
			answer(t, "Write of one byte more", x.Write(full), api.ErrFull)
			answer(t, "Swap of one byte more", x.Swap(full), api.ErrFull)
			expect(t, "what did not fit", x, "", 0, false)
			answer(t, "Write of parts", x.Write(full[:r.room/2], nil, full[r.room/2:r.room]), api.OK)
			answer(t, "Write of one byte more", x.Write([]byte("z")), api.ErrFull)
			answer(t, "Write of nothing", x.Write(), api.OK)
			if n := len(x.Bytes()); n != r.room || x.Held() != 0 {
				t.Errorf("the capacity %d: %d bytes, %d durable", r.n, n, x.Held())
			}
			answer(t, "Swap", x.Swap(full[:r.room]), api.OK)
			answer(t, "Write of one byte more", x.Write(nil, []byte("z")), api.ErrFull)
			if n := len(x.Bytes()); n != r.room || x.Held() != r.room {
				t.Errorf("the capacity %d: %d bytes, %d durable", r.n, n, x.Held())
			}
		}
	}
}

// P4.1: Room leaves the bytes, the durable ones among them, and more may be
// on the tape than there is room for.
func TestRoomLeavesTheBytes(t *testing.T) {
	x := waiting(t)
	for _, n := range []int{3, 0, -1, 8, 9, 1 << 40, 2} {
		x.Room(n)
		expect(t, "behind Room", x, "heldwait", 4, false)
	}
	answer(t, "Write", x.Write([]byte("a")), api.ErrFull)
	answer(t, "Swap", x.Swap([]byte("abc")), api.ErrFull)
	for _, parts := range [][][]byte{nil, {}, {nil}, {{}, nil}} {
		answer(t, "Write of nothing", x.Write(parts...), api.OK)
	}
	expect(t, "beyond the capacity", x, "heldwait", 4, false)
	answer(t, "Hold", x.Hold(), api.OK)
	answer(t, "Cut", x.Cut(7), api.OK)
	expect(t, "Cut beyond the capacity", x, "heldwai", 7, false)
	answer(t, "Swap", x.Swap([]byte("ab")), api.OK)
	expect(t, "Swap that just fits", x, "ab", 2, false)
	x.Fall(0)
	x.Room(3)
	expect(t, "Room of a tape that is down", x, "ab", 2, true)
	x.Rise()
	answer(t, "Write", x.Write([]byte("cd")), api.ErrFull)
	answer(t, "Write", x.Write([]byte("c")), api.OK)
	expect(t, "behind Rise", x, "abc", 2, false)
}

// P4.1: Write appends all its parts, in order, as pending bytes.
func TestWriteAppends(t *testing.T) {
	x := tape.New(100)
	answer(t, "Write", x.Write([]byte("ab"), nil, []byte("c"), []byte{}), api.OK)
	expect(t, "Write of parts", x, "abc", 0, false)
	answer(t, "Write", x.Write([]byte("d")), api.OK)
	answer(t, "Hold", x.Hold(), api.OK)
	answer(t, "Write", x.Write([]byte("\x00\xff")), api.OK)
	expect(t, "Write behind Hold", x, "abcd\x00\xff", 4, false)
}

// P4.1: a Write that does not fit appends none of its parts, also where the
// first ones would fit and where the parts are of more bytes than 32 bits tell.
func TestWriteThatDoesNotFit(t *testing.T) {
	x := tape.New(10)
	answer(t, "Write", x.Write([]byte("abcdef")), api.OK)
	for _, parts := range [][][]byte{{[]byte("12345")}, {[]byte("1234"), []byte("5")}, {nil, []byte("5"), []byte("1234")}, {make([]byte, 1000), nil}} {
		answer(t, "Write", x.Write(parts...), api.ErrFull)
		expect(t, "a Write that does not fit", x, "abcdef", 0, false)
	}
	many := make([][]byte, 4096)
	for i, b := 0, make([]byte, 1<<20); i < len(many); i++ {
		many[i] = b
	}
	answer(t, "Write of 2^32 bytes", x.Write(many...), api.ErrFull)
	answer(t, "Write that just fits", x.Write([]byte("123"), []byte("4")), api.OK)
	expect(t, "a Write that just fits", x, "abcdef1234", 0, false)
}

// P4.1: Hold makes all bytes durable.
func TestHold(t *testing.T) {
	x := tape.New(100)
	answer(t, "Hold of nothing", x.Hold(), api.OK)
	expect(t, "Hold of nothing", x, "", 0, false)
	answer(t, "Write", x.Write([]byte("ab"), []byte("cd")), api.OK)
	for range 2 {
		answer(t, "Hold", x.Hold(), api.OK)
		expect(t, "Hold", x, "abcd", 4, false)
	}
}

// P4.1: Cut to each number of bytes, those between durable and pending ones
// among them, and what lies beyond either end.
func TestCut(t *testing.T) {
	for _, n := range []int{math.MinInt, -1, 9, 10, math.MaxInt} {
		x := waiting(t)
		answer(t, "Cut beyond an end", x.Cut(n), api.ErrArg)
		expect(t, "Cut beyond an end", x, "heldwait", 4, false)
	}
	for n := range 9 {
		x := waiting(t)
		answer(t, "Cut", x.Cut(n), api.OK)
		expect(t, "Cut", x, "heldwait"[:n], n, false)
		answer(t, "Cut of what is gone", x.Cut(n+1), api.ErrArg)
		answer(t, "Write", x.Write([]byte("!")), api.OK)
		expect(t, "Write behind Cut", x, "heldwait"[:n]+"!", n, false)
	}
	x := tape.New(0)
	answer(t, "Cut of nothing", x.Cut(0), api.OK)
	answer(t, "Cut of nothing", x.Cut(1), api.ErrArg)
	answer(t, "Cut of nothing", x.Cut(-1), api.ErrArg)
}

// P4.1: Swap replaces all bytes by durable ones, or nothing.
func TestSwap(t *testing.T) {
	for _, b := range []string{"", "a", "heldwait", strings.Repeat("b", 100)} {
		x := waiting(t)
		answer(t, "Swap", x.Swap([]byte(b)), api.OK)
		expect(t, "Swap", x, b, len(b), false)
	}
	x := waiting(t)
	answer(t, "Swap of too much", x.Swap(make([]byte, 101)), api.ErrFull)
	expect(t, "Swap of too much", x, "heldwait", 4, false)
	answer(t, "Swap", x.Swap(nil), api.OK)
	expect(t, "Swap of nothing", x, "", 0, false)
	answer(t, "Write", x.Write([]byte("a")), api.OK)
	expect(t, "Write behind Swap", x, "a", 0, false)
}

// P4.1: of a tape that is down, each operation tells so, also one with wrong arguments.
func TestErrDownComesFirst(t *testing.T) {
	x := waiting(t)
	x.Fuse(1)
	answer(t, "Hold", x.Hold(), api.ErrDown)
	for range 2 {
		answer(t, "Write", x.Write([]byte("a")), api.ErrDown)
		answer(t, "Write of nothing", x.Write(), api.ErrDown)
		answer(t, "Write of too much", x.Write(make([]byte, 1000)), api.ErrDown)
		answer(t, "Hold", x.Hold(), api.ErrDown)
		answer(t, "Cut", x.Cut(1), api.ErrDown)
		answer(t, "Cut beyond an end", x.Cut(-1), api.ErrDown)
		answer(t, "Cut beyond an end", x.Cut(99), api.ErrDown)
		answer(t, "Swap", x.Swap([]byte("a")), api.ErrDown)
		answer(t, "Swap of too much", x.Swap(make([]byte, 1000)), api.ErrDown)
	}
	expect(t, "a tape that is down", x, "heldwait", 4, true)
}

// P4.2: a nil tape.
func TestNilTape(t *testing.T) {
	var x *tape.Tape
	x.Room(5)
	x.Fuse(1)
	x.Fall(3)
	x.Rise()
	for range 2 {
		answer(t, "Write", x.Write([]byte("a")), api.ErrNil)
		answer(t, "Write of nothing", x.Write(), api.ErrNil)
		answer(t, "Hold", x.Hold(), api.ErrNil)
		answer(t, "Cut", x.Cut(0), api.ErrNil)
		answer(t, "Cut beyond an end", x.Cut(-1), api.ErrNil)
		answer(t, "Swap", x.Swap(nil), api.ErrNil)
	}
	expect(t, "a nil tape", x, "", 0, true)
}

// P4.2: how many pending bytes outlast a Fall, and that they are durable then.
func TestFall(t *testing.T) {
	for _, r := range []struct {
		keep int
		want string
	}{{math.MinInt, "held"}, {-1, "held"}, {0, "held"}, {1, "heldw"}, {3, "heldwai"}, {4, "heldwait"}, {5, "heldwait"}, {99, "heldwait"}, {math.MaxInt, "heldwait"}} {
		x := waiting(t)
		x.Fall(r.keep)
		expect(t, "Fall", x, r.want, len(r.want), true)
		x.Fall(0)
		expect(t, "Fall of a tape that is down", x, r.want, len(r.want), true)
		x.Rise()
		expect(t, "Rise behind Fall", x, r.want, len(r.want), false)
		answer(t, "Write", x.Write([]byte("!")), api.OK)
		expect(t, "Write behind Rise", x, r.want+"!", len(r.want), false)
	}
	x := tape.New(5)
	x.Fall(3)
	expect(t, "Fall without bytes", x, "", 0, true)
}

// P4.2: Rise takes the pending bytes of a tape that is down, and nothing of one that is up.
func TestRise(t *testing.T) {
	x := waiting(t)
	x.Rise()
	expect(t, "Rise of a tape that is up", x, "heldwait", 4, false)
	x.Fuse(1)
	answer(t, "Hold", x.Hold(), api.ErrDown)
	expect(t, "down, with pending bytes", x, "heldwait", 4, true)
	x.Rise()
	expect(t, "Rise", x, "held", 4, false)
	x.Rise()
	answer(t, "Write", x.Write([]byte("new")), api.OK)
	x.Rise()
	expect(t, "Rise of a tape that is up again", x, "heldnew", 4, false)
}

// deed is a call of an operation, and what a waiting tape is behind it.
type deed struct {
	name  string
	do    func(x *tape.Tape) api.Errno
	bytes string
	held  int
}

func deeds() []deed {
	return []deed{
		{"Write", func(x *tape.Tape) api.Errno { return x.Write([]byte("1"), []byte("23")) }, "heldwait123", 4},
		{"Write of nothing", func(x *tape.Tape) api.Errno { return x.Write() }, "heldwait", 4},
		{"Hold", func(x *tape.Tape) api.Errno { return x.Hold() }, "heldwait", 8},
		{"Cut", func(x *tape.Tape) api.Errno { return x.Cut(5) }, "heldw", 5},
		{"Cut of durable bytes", func(x *tape.Tape) api.Errno { return x.Cut(2) }, "he", 2},
		{"Cut of nothing", func(x *tape.Tape) api.Errno { return x.Cut(8) }, "heldwait", 8},
		{"Swap", func(x *tape.Tape) api.Errno { return x.Swap([]byte("swap!")) }, "swap!", 5},
		{"Swap for nothing", func(x *tape.Tape) api.Errno { return x.Swap(nil) }, "", 0},
	}
}

// P4.2: of the operation that fails nothing is seen, but for the bytes of a
// Write, which are pending; the next one, behind Rise, comes to pass.
func TestTheOperationThatFails(t *testing.T) {
	for _, d := range deeds() {
		behind := "heldwait"
		if d.name == "Write" {
			behind = d.bytes
		}
		x := waiting(t)
		x.Fuse(1)
		expect(t, d.name+", a plan alone", x, "heldwait", 4, false)
		answer(t, d.name+" that fails", d.do(x), api.ErrDown)
		expect(t, d.name+" that fails", x, behind, 4, true)
		answer(t, d.name+" once more", d.do(x), api.ErrDown)
		expect(t, d.name+" once more", x, behind, 4, true)
		for keep := range len(behind) - 4 + 2 {
			x := waiting(t)
			x.Fuse(1)
			answer(t, d.name+" that fails", d.do(x), api.ErrDown)
			x.Fall(keep)
			n := min(4+keep, len(behind))
			expect(t, d.name+" that fails, and Fall", x, behind[:n], n, true)
		}
		x.Rise()
		expect(t, d.name+" that fails, and Rise", x, "held", 4, false)
		answer(t, "Write", x.Write([]byte("wait")), api.OK)
		answer(t, d.name+" behind Rise", d.do(x), api.OK)
		expect(t, d.name+" behind Rise", x, d.bytes, d.held, false)
	}
}

// P4.2: whatever the operations are, the n-th one fails and no other.
func TestFuseCountsOperations(t *testing.T) {
	for _, d := range deeds() {
		for n := 1; n <= 5; n++ {
			x := tape.New(1000)
			answer(t, "Swap", x.Swap([]byte("heldwait")), api.OK)
			x.Fuse(n)
			for i := 1; i <= 8; i++ {
				want := api.OK
				if i >= n {
					want = api.ErrDown
				}
				answer(t, d.name, d.do(x), want)
			}
			if !x.Down() {
				t.Errorf("%s: the tape is up behind Fuse(%d)", d.name, n)
			}
		}
	}
}

// P4.2: calls that are refused, and those that are no operations, do not count.
func TestFuseDoesNotCountOtherCalls(t *testing.T) {
	x := waiting(t)
	x.Room(20)
	x.Fuse(2)
	for range 3 {
		answer(t, "Write of too much", x.Write(make([]byte, 13)), api.ErrFull)
		answer(t, "Swap of too much", x.Swap(make([]byte, 21)), api.ErrFull)
		answer(t, "Cut beyond an end", x.Cut(-1), api.ErrArg)
		answer(t, "Cut beyond an end", x.Cut(9), api.ErrArg)
		x.Bytes()
		x.Held()
		x.Down()
		x.Rise()
		x.Room(20)
	}
	answer(t, "the first operation", x.Write(), api.OK)
	answer(t, "Write of too much", x.Write(make([]byte, 13)), api.ErrFull)
	expect(t, "what was refused", x, "heldwait", 4, false)
	answer(t, "the second operation", x.Write([]byte("!")), api.ErrDown)
	expect(t, "the second operation", x, "heldwait!", 4, true)
}

// P4.2: a plan outlasts Fall, Rise and the calls while the tape is down.
func TestAPlanOutlastsAFall(t *testing.T) {
	x := waiting(t)
	x.Fuse(3)
	answer(t, "the first operation", x.Hold(), api.OK)
	x.Fall(0)
	answer(t, "Hold", x.Hold(), api.ErrDown)
	answer(t, "Write", x.Write([]byte("a")), api.ErrDown)
	x.Rise()
	answer(t, "the second operation", x.Hold(), api.OK)
	x.Fall(0)
	x.Rise()
	answer(t, "the third operation", x.Swap(nil), api.ErrDown)
	expect(t, "the third operation", x, "heldwait", 8, true)
	x.Fuse(1)
	x.Rise()
	answer(t, "planned while it was down", x.Cut(0), api.ErrDown)
	x.Rise()
	answer(t, "behind both plans", x.Cut(0), api.OK)
}

// P4.2: a later plan takes the place of the one ahead of it; one below 1 is none.
func TestALaterPlan(t *testing.T) {
	for _, r := range []struct{ first, ahead, then, fails int }{
		{1, 0, 3, 3}, {3, 0, 1, 1}, {5, 2, 2, 2}, {2, 1, 4, 4}, {3, 2, math.MaxInt, 0}, {math.MaxInt, 3, 1, 1},
		{1, 0, 0, 0}, {2, 1, 0, 0}, {3, 1, -1, 0}, {1, 0, math.MinInt, 0}, {0, 2, 2, 2}, {-1, 1, 1, 1}, {0, 0, 0, 0},
	} {
		x := waiting(t)
		x.Fuse(r.first)
		for range r.ahead {
			answer(t, "ahead of the later plan", x.Hold(), api.OK)
		}
		x.Fuse(r.then)
		for i := 1; i <= 6; i++ {
			want := api.OK
			if r.fails > 0 && i >= r.fails {
				want = api.ErrDown
			}
			answer(t, "behind the later plan", x.Hold(), want)
		}
	}
}

// The chapter's example, and what follows: durable bytes outlast each failure.
func TestDurableBytesOutlastFailures(t *testing.T) {
	x := tape.New(10)
	x.Write([]byte("ab"))
	x.Hold()
	x.Write([]byte("c"))
	x.Fall(0)
	x.Rise()
	expect(t, "the example", x, "ab", 2, false)
	for n := 1; n <= 4; n++ {
		x.Fuse(n)
		for range n {
			x.Write([]byte("x"))
		}
		x.Fall(-1)
		x.Rise()
		expect(t, "behind a failure", x, "ab", 2, false)
	}
}

// R3: no argument is kept or changed, also beyond its length, and no two answers share bytes.
func TestBytesAreNotShared(t *testing.T) {
	part := []byte("abcd")
	for _, put := range []func(x *tape.Tape, b []byte) api.Errno{
		func(x *tape.Tape, b []byte) api.Errno { return x.Write(b) },
		func(x *tape.Tape, b []byte) api.Errno { return x.Swap(b) },
	} {
		x := tape.New(100)
		copy(part, "abcd")
		answer(t, "the first bytes", put(x, part[:2]), api.OK)
		copy(part, "yy")
		answer(t, "Write", x.Write([]byte("12"), part[2:3]), api.OK)
		if string(part) != "yycd" {
			t.Errorf("an argument has changed: %q", part)
		}
		copy(part, "zzzz")
		b := x.Bytes()
		if string(b) != "ab12c" {
			t.Errorf("the tape hangs on an argument: %q", b)
		}
		copy(b, "yyyyy")
		_ = append(b[:1], "yyyy"...)
		if got := x.Bytes(); string(got) != "ab12c" {
			t.Errorf("the tape hangs on an answer: %q", got)
		}
		b = x.Bytes()
		answer(t, "Cut", x.Cut(1), api.OK)
		answer(t, "Write", x.Write([]byte("XYZW")), api.OK)
		if string(b) != "ab12c" {
			t.Errorf("an answer hangs on the tape: %q", b)
		}
	}
	x, parts := tape.New(100), [][]byte{[]byte("a"), nil, []byte("b"), []byte("c")}
	answer(t, "Write", x.Write(parts[:2]...), api.OK)
	if !bytes.Equal(bytes.Join(parts, []byte(",")), []byte("a,,b,c")) {
		t.Errorf("the list of parts has changed: %q", parts)
	}
}

// R2: what is done with one tape is not seen on another one.
func TestTapesAreApart(t *testing.T) {
	x, y := waiting(t), waiting(t)
	y.Fuse(1)
	y.Hold()
	y.Room(0)
	answer(t, "Write", x.Write([]byte("!")), api.OK)
	expect(t, "the other tape", x, "heldwait!", 4, false)
}

// R1: a tape that New did not make is one without room.
func TestZeroTape(t *testing.T) {
	x := &tape.Tape{}
	expect(t, "a zero tape", x, "", 0, false)
	answer(t, "Write", x.Write([]byte("a")), api.ErrFull)
	answer(t, "Cut", x.Cut(0), api.OK)
	x.Fall(1)
	expect(t, "a zero tape", x, "", 0, true)
}
