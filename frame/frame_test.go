package frame_test

import (
	"bytes"
	"crypto/sha1"
	"encoding/binary"
	"encoding/hex"
	"math"
	"slices"
	"testing"

	"trestle/api"
	"trestle/frame"
)

const (
	most  = 2*api.MaxBody + 100 // bytes of a payload
	spare = 14                  // bytes of a frame beside its payload
)

// varied has n bytes, hardly two pieces of which are the same.
func varied(n int) []byte {
	b := make([]byte, n)
	x := uint32(1)
	for i := range b {
		x = x*1664525 + 1013904223
		b[i] = byte(x >> 24)
	}
	return b
}

// join lays parts one after the other.
func join(parts ...[]byte) []byte { return bytes.Join(parts, nil) }

// head is a frame up to its payload, with any length that four bytes can have.
func head(kind byte, length uint32) []byte {
	return binary.BigEndian.AppendUint32([]byte{0xfe, kind}, length)
}

// framed is what the chapter says of a frame, by other means than the package's.
func framed(kind byte, payload []byte) []byte {
	b := append(head(kind, uint32(len(payload))), payload...)
	sum := sha1.Sum(b)
	return append(b, sum[:8]...)
}

// result is what Take answers.
type result struct {
	kind    int
	payload []byte
	n       int
	err     api.Errno
}

// taken is what the chapter says of Take, by other means than the package's.
func taken(b []byte) result {
	switch {
	case len(b) == 0:
		return result{err: api.ErrShort}
	case b[0] != 0xfe:
		return result{err: api.ErrForm}
	case len(b) < 6:
		return result{err: api.ErrShort}
	}
	length := int64(binary.BigEndian.Uint32(b[2:6]))
	switch {
	case length > most:
		return result{err: api.ErrLimit}
	case int64(len(b)) < length+spare:
		return result{err: api.ErrShort}
	}
	payload := b[6 : 6+length]
	n := int(length) + spare
	if !bytes.Equal(framed(b[1], payload), b[:n]) {
		return result{err: api.ErrSum}
	}
	return result{kind: int(b[1]), payload: payload, n: n}
}

// take holds what Take answers against what it should; beside an error
// nothing is answered.
func take(t *testing.T, what string, b []byte, want result) {
	t.Helper()
	kind, payload, n, err := frame.Take(b)
	if kind != want.kind || !bytes.Equal(payload, want.payload) || n != want.n || err != want.err {
		t.Errorf("Take of %s: kind %d, %d bytes %.40x, %d bytes in all, error %d; want kind %d, %d bytes %.40x, %d bytes in all, error %d",
			what, kind, len(payload), payload, n, err, want.kind, len(want.payload), want.payload, want.n, want.err)
	}
}

// refused expects an error of Take and nothing beside it.
func refused(t *testing.T, what string, b []byte, want api.Errno) {
	t.Helper()
	take(t, what, b, result{err: want})
}

// packed is what Pack answers for what may be packed.
func packed(t *testing.T, kind int, payload []byte) []byte {
	t.Helper()
	b, err := frame.Pack(kind, payload)
	if err != api.OK {
		t.Fatalf("Pack(%d, %d bytes): error %d", kind, len(payload), err)
	}
	return b
}

// all holds what All answers against what it should.
func all(t *testing.T, what string, b []byte, want ...result) {
	t.Helper()
	kinds, payloads, n := frame.All(b)
	end := 0
	for _, r := range want {
		end += r.n
	}
	if len(kinds) != len(want) || len(payloads) != len(want) || n != end {
		t.Errorf("All of %s: %d kinds, %d payloads, %d bytes; want %d, %d, %d", what, len(kinds), len(payloads), n, len(want), len(want), end)
		return
	}
	for i, r := range want {
		if kinds[i] != r.kind || !bytes.Equal(payloads[i], r.payload) {
			t.Errorf("All of %s: frame %d: kind %d, %.40x; want kind %d, %.40x", what, i, kinds[i], payloads[i], r.kind, r.payload)
		}
	}
}

// lengths are payloads' lengths at which one more byte of the length field
// comes in, and the bound.
var lengths = []int{0, 1, 2, 49, 50, 57, 58, 255, 256, 257, 65535, 65536, 65537, 131071, 131072, most - 1, most}

// P5.1: frames, byte by byte.
func TestPackOfKnownFrames(t *testing.T) {
	for _, r := range []struct {
		kind    int
		payload []byte
		want    string
	}{
		{1, []byte("a"), "fe010000000161" + "b126e8f560082e48"},
		{0, nil, "fe0000000000" + "85e183caa6aae74b"},
		{255, nil, "feff00000000" + "8088b188a48c7bf8"},
		{7, make([]byte, 256), "fe0700000100" + hex.EncodeToString(make([]byte, 256)) + "fb53f6dcfe131786"},
		{2, make([]byte, most), "fe0200020064" + hex.EncodeToString(make([]byte, most)) + "322983afc50e8d45"},
	} {
		if got := hex.EncodeToString(packed(t, r.kind, r.payload)); got != r.want {
			t.Errorf("Pack(%d, %d bytes): %.80s, want %.80s", r.kind, len(r.payload), got, r.want)
		}
	}
}

// P5.1: each kind, and Take answers what has been packed.
func TestEachKind(t *testing.T) {
	for kind := range 256 {
		for _, payload := range [][]byte{nil, {}, []byte("a"), varied(300)} {
			b := packed(t, kind, payload)
			if !bytes.Equal(b, framed(byte(kind), payload)) {
				t.Errorf("Pack(%d, %d bytes): %.40x", kind, len(payload), b)
			}
			take(t, "a frame", b, result{kind, payload, len(payload) + spare, api.OK})
		}
	}
}

// P5.1: payloads of many lengths, up to the bound.
func TestEachLength(t *testing.T) {
	for _, n := range append(slices.Clone(lengths), 3, 10, 100, 1000, 4096) {
		payload := varied(n)
		b := packed(t, 3, payload)
		if !bytes.Equal(b, framed(3, payload)) {
			t.Errorf("Pack(3, %d bytes): %.40x", n, b)
		}
		take(t, "a frame", b, result{3, payload, n + spare, api.OK})
	}
}

// P5.1: what Pack refuses; the kind is looked at first.
func TestPackRefuses(t *testing.T) {
	for _, r := range []struct {
		kind, n int
		want    api.Errno
	}{
		{-1, 0, api.ErrArg}, {256, 0, api.ErrArg}, {257, 1, api.ErrArg}, {511, 1, api.ErrArg}, {1 << 32, 1, api.ErrArg},
		{-255, 0, api.ErrArg}, {-256, 0, api.ErrArg}, {math.MinInt, 0, api.ErrArg}, {math.MaxInt, 0, api.ErrArg},
		{-1, most, api.ErrArg}, {256, most, api.ErrArg},
		{-1, most + 1, api.ErrArg}, {256, most + 1, api.ErrArg}, {math.MaxInt, 200000, api.ErrArg},
		{0, most + 1, api.ErrLimit}, {1, most + 1, api.ErrLimit}, {255, most + 1, api.ErrLimit}, {255, most + 2, api.ErrLimit},
		{1, 1 << 18, api.ErrLimit}, {1, 1 << 24, api.ErrLimit}, {1, 1<<24 + 1, api.ErrLimit},
	} {
		if b, err := frame.Pack(r.kind, make([]byte, r.n)); len(b) != 0 || err != r.want {
			t.Errorf("Pack(%d, %d bytes): %d bytes, error %d; want the error %d alone", r.kind, r.n, len(b), err, r.want)
		}
	}
}

// P5.1: whatever lies behind a frame is not looked at.
func TestTakeOfAFrameWithMoreBehind(t *testing.T) {
	for _, n := range []int{0, 1, 255, 256, most} {
		payload := varied(n)
		b := framed(9, payload)
		for _, more := range [][]byte{{0}, {0xfe}, {0xff, 0xff}, framed(8, []byte("b")), framed(9, payload), b[:5], varied(1000)} {
			take(t, "a frame with more behind", join(b, more), result{9, payload, n + spare, api.OK})
		}
	}
}

// P5.1: a payload may look like anything, like a frame too.
func TestPayloadsThatLookLikeFrames(t *testing.T) {
	inner := framed(4, []byte("inner"))
	for _, payload := range [][]byte{{0xfe}, {0xfe, 0xfe, 0xfe}, inner, join(inner, inner), inner[:len(inner)-1], bytes.Repeat([]byte{0xfe}, 100), bytes.Repeat([]byte{0xff}, 100), make([]byte, 100)} {
		b := packed(t, 5, payload)
		take(t, "a frame of a frame", b, result{5, payload, len(payload) + spare, api.OK})
		all(t, "a frame of a frame", b, result{kind: 5, payload: payload, n: len(b)})
	}
}

// P5.1: each proper prefix of a frame is too short, and no frame for All.
func TestPrefixes(t *testing.T) {
	for _, n := range lengths {
		b := framed(1, varied(n))
		for k := range b {
			refused(t, "a prefix", b[:k], api.ErrShort)
			if k < 300 || k > len(b)-300 {
				all(t, "a prefix", b[:k])
			}
		}
	}
}

// P5.1: nothing is too short, not of a wrong form.
func TestTakeOfNothing(t *testing.T) {
	refused(t, "nil", nil, api.ErrShort)
	refused(t, "no bytes", []byte{}, api.ErrShort)
	refused(t, "no bytes in front of a frame", framed(1, nil)[:0], api.ErrShort)
}

// P5.1: each other first byte is a wrong form, however few or many follow it,
// and whatever else is wrong.
func TestTakeOfAnotherFirstByte(t *testing.T) {
	for c := range 256 {
		if c == 0xfe {
			continue
		}
		for _, b := range [][]byte{framed(1, []byte("a")), head(1, most), head(1, most+1), join(head(1, math.MaxUint32), varied(100))} {
			b[0] = byte(c)
			for k := 1; k <= len(b); k++ {
				refused(t, "another first byte", b[:k], api.ErrForm)
			}
		}
	}
}

// P5.1: fewer than six bytes are too short, whatever length they promise.
func TestTakeOfFewerThanSixBytes(t *testing.T) {
	for _, b := range [][]byte{head(1, 0), head(255, most+1), head(0, math.MaxUint32), {0xfe, 0xfe, 0xfe, 0xfe, 0xfe, 0xfe}} {
		for k := 1; k < 6; k++ {
			refused(t, "fewer than six bytes", b[:k], api.ErrShort)
		}
	}
}

// P5.1: a length field at its bound is right and beyond it never, be there as
// few bytes as six or as many as it promises, with the right sum.
func TestTakeAtTheBoundOfTheLength(t *testing.T) {
	refused(t, "the bound, and no payload", head(1, most), api.ErrShort)
	refused(t, "the bound, and one byte less", join(head(1, most), make([]byte, most+7)), api.ErrShort)
	refused(t, "the bound, and a wrong sum", join(head(1, most), make([]byte, most+8)), api.ErrSum)
	take(t, "the bound", framed(1, varied(most)), result{1, varied(most), most + spare, api.OK})
	for _, n := range []uint32{most + 1, most + 2, 1 << 18, 1 << 24, 1<<31 - 1, 1 << 31, 1<<31 + 1, math.MaxUint32 - 13, math.MaxUint32 - 5, math.MaxUint32} {
		for _, more := range []int{0, 1, 8, most + 8, most + 9} {
			refused(t, "a length beyond the bound", join(head(1, n), make([]byte, more)), api.ErrLimit)
		}
	}
	for _, n := range []int{most + 1, most + 2, 200000} {
		b := framed(1, varied(n))
		refused(t, "a whole frame beyond the bound", b, api.ErrLimit)
		refused(t, "a frame beyond the bound, and more", join(b, b), api.ErrLimit)
		all(t, "a whole frame beyond the bound", b)
	}
}

// P5.1: the length counts in all four of its bytes, the most significant one first.
func TestTakeOfEachByteOfTheLength(t *testing.T) {
	for i, want := range []api.Errno{api.ErrLimit, api.ErrShort, api.ErrShort, api.ErrShort} {
		b := framed(1, nil)
		b[2+i] = 1
		refused(t, "another length", b, want)
	}
	// One byte less is a whole frame as to its length, one byte more is too short.
	b := framed(1, []byte("abc"))
	b[5] = 2
	refused(t, "a length of one byte less", b, api.ErrSum)
	b[5] = 4
	refused(t, "a length of one byte more", b, api.ErrShort)
	refused(t, "a length of one byte more, and that byte", append(b, 0), api.ErrSum)
}

// P5.1: each byte of a frame turned, to each other value: never the frame,
// and the first error that applies, also with more behind.
func TestTakeOfAFrameWithAByteTurned(t *testing.T) {
	for _, payload := range [][]byte{nil, []byte("a"), varied(20)} {
		b := framed(0x42, payload)
		for i := range b {
			for d := 1; d < 256; d++ {
				c := bytes.Clone(b)
				c[i] ^= byte(d)
				for _, x := range [][]byte{c, join(c, varied(300)), join(c, b)} {
					want := taken(x)
					if want.err == api.OK {
						t.Fatalf("the byte %d turned: still a frame", i)
					}
					take(t, "a frame with a byte turned", x, want)
					all(t, "a frame with a byte turned", x)
				}
			}
		}
	}
}

// P5.1: a damage of a long frame is seen wherever it is.
func TestTakeOfALongFrameWithAByteTurned(t *testing.T) {
	b := framed(1, varied(most))
	for i := 6; i < len(b); i += 1999 {
		b[i] ^= 0x10
		refused(t, "a long frame with a byte turned", b, api.ErrSum)
		b[i] ^= 0x10
	}
	for i := len(b) - 10; i < len(b); i++ {
		b[i] ^= 0x80
		refused(t, "a long frame with a byte turned", b, api.ErrSum)
		b[i] ^= 0x80
	}
	take(t, "the long frame", b, result{1, varied(most), len(b), api.OK})
}

// P5.1: the sum is that of the head and the payload, and its first eight
// bytes are meant, in their order.
func TestTakeOfAnotherSum(t *testing.T) {
	body := append(head(1, 1), 'a')
	right, ofPayload := sha1.Sum(body), sha1.Sum([]byte("a"))
	turned := slices.Clone(right[:8])
	slices.Reverse(turned)
	for _, sum := range [][]byte{make([]byte, 8), ofPayload[:8], right[12:], right[1:9], turned} {
		refused(t, "a frame with another sum", join(body, sum), api.ErrSum)
	}
	take(t, "a frame with its whole sum", join(body, right[:]), result{1, []byte("a"), 15, api.OK})
}

// frames are some frames one after the other, and what Take answers for each.
func frames(payloads ...[]byte) ([]byte, []result) {
	var b []byte
	var l []result
	for i, payload := range payloads {
		kind := 37 * i % 256
		f := framed(byte(kind), payload)
		b, l = append(b, f...), append(l, result{kind: kind, payload: payload, n: len(f)})
	}
	return b, l
}

// P5.2: no frames: nothing at all, and what begins with none.
func TestAllOfNoFrames(t *testing.T) {
	long := framed(1, varied(most+1))
	for _, b := range [][]byte{nil, {}, {0}, {0xfe}, []byte("x"), head(1, 0), head(1, most+1), framed(1, nil)[1:], framed(1, nil)[:13], long, make([]byte, 1000), bytes.Repeat([]byte{0xfe}, 1000)} {
		all(t, "no frames", b)
	}
}

// P5.2: one frame, and several, of payloads short, long and missing, with the
// same frame more than once.
func TestAllOfSomeFrames(t *testing.T) {
	for _, payloads := range [][][]byte{
		{nil}, {[]byte("a")}, {varied(most)}, {nil, nil}, {nil, []byte("a"), nil},
		{[]byte("a"), []byte("b"), []byte("c"), varied(300), nil, varied(65536)},
		{varied(most), nil, varied(most), varied(most - 1)},
		slices.Repeat([][]byte{nil}, 1000), slices.Repeat([][]byte{[]byte("same")}, 300),
	} {
		b, want := frames(payloads...)
		all(t, "frames", b, want...)
	}
	same := framed(6, []byte("same"))
	r := result{kind: 6, payload: []byte("same"), n: len(same)}
	all(t, "a frame three times", join(same, same, same), r, r, r)
}

// P5.2: what is no frame ends what All reads, whatever stands behind it, at
// the front, in the midst and at the end.
func TestAllOfFramesWithABrokenOneBehind(t *testing.T) {
	good := framed(8, []byte("good"))
	badSum := bytes.Clone(good)
	badSum[len(badSum)-1] ^= 1
	for _, broken := range [][]byte{badSum, good[:len(good)-1], good[:6], good[:1], good[1:], {0}, []byte("x"), head(1, most), head(1, most+1), framed(1, varied(most+1))} {
		for n := range 5 {
			b, want := frames([][]byte{[]byte("one"), nil, varied(70), []byte("four")}[:n]...)
			all(t, "frames with a broken one behind", join(b, broken), want...)
			all(t, "frames with a broken one and a good one behind", join(b, broken, good), want...)
		}
	}
}

// P5.2: each prefix of some frames, and some frames with each byte turned:
// just the frames in front of it.
func TestAllReadsTheFramesInFront(t *testing.T) {
	b, l := frames([]byte("one"), nil, varied(70), nil, []byte("five"))
	for k := range len(b) + 1 {
		whole, end := 0, 0
		for whole < len(l) && end+l[whole].n <= k {
			end += l[whole].n
			whole++
		}
		all(t, "a prefix", b[:k], l[:whole]...)
		if k == len(b) {
			break
		}
		c := bytes.Clone(b)
		c[k] ^= 0x24
		all(t, "frames with a byte turned", c, l[:whole]...)
	}
}

// P5.1, P5.2: bytes of any kind against the second reading of the chapter.
func TestArbitraryBytes(t *testing.T) {
	noise := varied(1 << 16)
	pick := func(n int) int {
		c := int(noise[0])<<8 | int(noise[1])
		noise = noise[2:]
		return c % n
	}
	for len(noise) > 4000 {
		var b []byte
		for range pick(5) {
			f := framed(byte(pick(256)), noise[:pick(40)])
			switch pick(4) {
			case 0:
				f[pick(len(f))] = byte(pick(256))
			case 1:
				f = f[:pick(len(f)+1)]
			}
			b = append(b, f...)
		}
		take(t, "arbitrary bytes", b, taken(b))
		var want []result
		for rest := b; ; rest = rest[want[len(want)-1].n:] {
			r := taken(rest)
			if r.err != api.OK {
				break
			}
			want = append(want, r)
		}
		all(t, "arbitrary bytes", b, want...)
	}
}

// R3: what is handed in stays as it was, also beyond its length.
func TestWhatIsHandedInStays(t *testing.T) {
	for _, n := range []int{0, 1, 50, 256} {
		b := varied(1000)
		frame.Pack(3, b[:n])
		frame.Pack(300, b[:n])
		frame.Take(b[:n])
		frame.All(b[:n])
		if !bytes.Equal(b, varied(1000)) {
			t.Errorf("bytes that are no frame have changed")
		}
		f, _ := frames(varied(n), nil, varied(n))
		b = join(f, varied(100))
		was := bytes.Clone(b)
		for k := range len(f) + 1 {
			frame.Take(b[:k])
			frame.All(b[:k])
			frame.Pack(0, b[:k])
		}
		if !bytes.Equal(b, was) {
			t.Errorf("frames of %d bytes have changed", n)
		}
	}
}

// scribble writes over the bytes, and over what they have room for.
func scribble(b []byte) {
	for i := range b[:cap(b)] {
		b[:cap(b)][i] = 0x99
	}
}

// R3: what Pack answers is new memory, and the payload is not kept.
func TestPackAnswersNewMemory(t *testing.T) {
	for _, n := range []int{0, 1, 300} {
		payload := varied(n + 50)[:n]
		first, second := packed(t, 2, payload), packed(t, 2, payload)
		scribble(first)
		if !bytes.Equal(second, framed(2, varied(n))) || !bytes.Equal(payload[:n+50], varied(n+50)) {
			t.Errorf("Pack of %d bytes shares its answer", n)
		}
		scribble(payload)
		if !bytes.Equal(second, framed(2, varied(n))) {
			t.Errorf("Pack of %d bytes has kept the payload", n)
		}
	}
}

// R3: the payload that Take answers is new memory.
func TestTakeAnswersNewMemory(t *testing.T) {
	for _, n := range []int{0, 1, 300} {
		want := join(framed(2, varied(n)), []byte("more"))
		b := bytes.Clone(want)
		_, first, _, _ := frame.Take(b)
		_, second, _, _ := frame.Take(b)
		scribble(first)
		if !bytes.Equal(b, want) || !bytes.Equal(second, varied(n)) {
			t.Errorf("Take of %d bytes shares its payload", n)
		}
		scribble(b)
		if !bytes.Equal(second, varied(n)) {
			t.Errorf("Take of %d bytes answers a piece of what came in", n)
		}
	}
}

// R3: the lists and the payloads that All answers are new memory, and no two
// of them are the same.
func TestAllAnswersNewMemory(t *testing.T) {
	b, l := frames(varied(10), nil, varied(300), []byte("x"))
	was := bytes.Clone(b)
	for i := range l {
		_, payloads, _ := frame.All(b)
		scribble(payloads[i])
		for j, r := range l {
			if j != i && !bytes.Equal(payloads[j], r.payload) {
				t.Errorf("the payloads %d and %d share bytes", i, j)
			}
		}
		if !bytes.Equal(b, was) {
			t.Fatalf("the payload %d is a piece of what came in", i)
		}
		all(t, "frames", b, l...)
	}
	kinds, payloads, _ := frame.All(b)
	otherKinds, otherPayloads, _ := frame.All(b)
	for i := range l {
		otherKinds[i], otherPayloads[i] = -1, nil
	}
	scribble(b)
	for i, r := range l {
		if kinds[i] != r.kind || !bytes.Equal(payloads[i], r.payload) {
			t.Errorf("frame %d of All hangs on what came in, or on another answer", i)
		}
	}
}

// R2: calls at the same time, on the same bytes, do not disturb each other.
func TestAtTheSameTime(t *testing.T) {
	b, l := frames(varied(300), nil, varied(5000), []byte("x"))
	done := make(chan bool)
	for range 8 {
		go func() {
			defer func() { done <- true }()
			for range 20 {
				take(t, "a frame, at the same time", b, l[0])
				all(t, "frames, at the same time", b, l...)
				if f, err := frame.Pack(0, varied(300)); err != api.OK || !bytes.Equal(f, b[:len(f)]) {
					t.Errorf("Pack at the same time: error %d", err)
				}
			}
		}()
	}
	for range 8 {
		<-done
	}
}
