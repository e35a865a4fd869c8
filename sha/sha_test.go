package sha_test

import (
	"bytes"
	"crypto/sha1"
	"encoding/hex"
	"strings"
	"testing"

	"trestle/api"
	"trestle/sha"
)

// varied has n bytes, hardly two blocks of which are the same.
func varied(n int) []byte {
	b := make([]byte, n)
	x := uint32(1)
	for i := range b {
		x = x*1664525 + 1013904223
		b[i] = byte(x >> 24)
	}
	return b
}

// cut cuts a text into parts of the given lengths, one after the other and
// from the front again; the last part may be shorter.
func cut(b []byte, lengths ...int) [][]byte {
	var parts [][]byte
	for i := 0; len(b) > 0; i++ {
		n := min(lengths[i%len(lengths)], len(b))
		parts = append(parts, b[:n])
		b = b[n:]
	}
	return parts
}

func text(id api.Id) string { return hex.EncodeToString(id[:]) }

// P2.1: digests that are known from the standard and elsewhere.
func TestSumOfKnownTexts(t *testing.T) {
	for _, r := range []struct{ s, want string }{
		{"", "da39a3ee5e6b4b0d3255bfef95601890afd80709"},
		{"a", "86f7e437faa5a7fce15d1ddcb9eaeaea377667b8"},
		{"abc", "a9993e364706816aba3e25717850c26c9cd0d89d"},
		{"abcdbcdecdefdefgefghfghighijhijkijkljklmklmnlmnomnopnopq", "84983e441c3bd26ebaae4aa1f95129e5e54670f1"},
		{"The quick brown fox jumps over the lazy dog", "2fd4e1c67a2d28fced849ee1bb76e7391b93eb12"},
		{"blob 0\x00", "e69de29bb2d1d6434b8b29ae775ad8c2e48c5391"},
		{strings.Repeat("a", 1000000), "34aa973cd4c4daa4f61eeb2bdbad27316534016f"},
	} {
		if got := text(sha.Sum([]byte(r.s))); got != r.want {
			t.Errorf("Sum of %d bytes: %s, want %s", len(r.s), got, r.want)
		}
	}
}

// P2.1: no part at all, parts that are nil and parts that are empty.
func TestSumOfNothing(t *testing.T) {
	want := sha.Sum()
	if got := text(want); got != "da39a3ee5e6b4b0d3255bfef95601890afd80709" {
		t.Errorf("Sum of no part: %s", got)
	}
	for i, parts := range [][][]byte{nil, {}, {nil}, {{}}, {nil, nil}, {{}, nil, {}}, {varied(9)[9:]}} {
		if got := sha.Sum(parts...); got != want {
			t.Errorf("Sum of nothing, row %d: %s", i, text(got))
		}
	}
}

// P2.1: each length up to some blocks, so that the ends of a block and the
// room for the length are met from both sides.
func TestSumOfEachLength(t *testing.T) {
	for n := range 5*64 + 2 {
		for _, b := range [][]byte{varied(n), make([]byte, n), bytes.Repeat([]byte{0xff}, n), bytes.Repeat([]byte{0x80}, n)} {
			if got, want := sha.Sum(b), api.Id(sha1.Sum(b)); got != want {
				t.Errorf("Sum of %d bytes: %s, want %s", n, text(got), text(want))
			}
		}
	}
}

// P2.1: longer texts, whose length in bits takes more than one byte, than two, than three.
func TestSumOfLongTexts(t *testing.T) {
	for _, n := range []int{1000, 4095, 8191, 8192, 8193, 65535, 65536, 65537, 1 << 20, 1<<21 - 1, 1 << 21, 1<<21 + 1} {
		b := varied(n)
		if got, want := sha.Sum(b), api.Id(sha1.Sum(b)); got != want {
			t.Errorf("Sum of %d bytes: %s, want %s", n, text(got), text(want))
		}
	}
}

// P2.1: a text of more than 2^32 bits, in parts that are the same memory.
func TestSumOfMoreThan32Bits(t *testing.T) {
	if testing.Short() {
		t.Skip("takes some seconds")
	}
	part := varied(1 << 20)
	parts := make([][]byte, 513)
	h := sha1.New()
	for i := range parts {
		parts[i] = part
		h.Write(part)
	}
	if got, want := sha.Sum(parts...), api.Id(h.Sum(nil)); got != want {
		t.Errorf("Sum of 513 MiB: %s, want %s", text(got), text(want))
	}
}

// P2.1: a single byte, in each place of a block and with each value, counts.
func TestSumOfTextsThatDifferInOneByte(t *testing.T) {
	seen := map[api.Id]int{}
	for i := range 130 {
		b := varied(130)
		b[i] ^= 1
		seen[sha.Sum(b)]++
	}
	for c := range 256 {
		seen[sha.Sum([]byte{byte(c)})]++
	}
	if len(seen) != 130+256 {
		t.Errorf("%d digests of %d texts", len(seen), 130+256)
	}
}

// P2.1: the text counts alone, not how it is cut: at each place, in two parts
// and in three with an empty one between.
func TestSumOfTwoParts(t *testing.T) {
	for _, n := range []int{1, 55, 56, 63, 64, 65, 119, 120, 128, 200} {
		b := varied(n)
		want := api.Id(sha1.Sum(b))
		for i := range n + 1 {
			if got := sha.Sum(b[:i], b[i:]); got != want {
				t.Errorf("Sum of %d bytes, cut at %d: %s, want %s", n, i, text(got), text(want))
			}
			if got := sha.Sum(nil, b[:i], []byte{}, b[i:], nil); got != want {
				t.Errorf("Sum of %d bytes, cut at %d with empty parts: %s, want %s", n, i, text(got), text(want))
			}
		}
	}
}

// P2.1: many parts, of lengths below, at and above a block.
func TestSumOfManyParts(t *testing.T) {
	for _, n := range []int{64, 129, 1000, 4096} {
		b := varied(n)
		want := api.Id(sha1.Sum(b))
		for length := 1; length <= 140; length++ {
			if got := sha.Sum(cut(b, length)...); got != want {
				t.Errorf("Sum of %d bytes in parts of %d: %s, want %s", n, length, text(got), text(want))
			}
		}
		for _, lengths := range [][]int{{1, 63}, {63, 1}, {0, 64}, {55, 9, 0, 65}, {1, 2, 3, 5, 8, 13, 21, 34, 55, 89}, {130, 0, 0, 1}} {
			if got := sha.Sum(cut(b, lengths...)...); got != want {
				t.Errorf("Sum of %d bytes in parts of %v: %s, want %s", n, lengths, text(got), text(want))
			}
		}
	}
}

// P2.1: the order of the parts counts, and a part that comes twice is read twice.
func TestSumKeepsTheOrderOfParts(t *testing.T) {
	a, b := []byte("ab"), []byte("c")
	if got := sha.Sum(b, a); got != sha.Sum([]byte("cab")) || got == sha.Sum(a, b) {
		t.Errorf("Sum of two parts: %s", text(got))
	}
	if got := sha.Sum(a, a, b, a); got != sha.Sum([]byte("ababcab")) {
		t.Errorf("Sum of a part that comes again: %s", text(got))
	}
}

// R2: one call does not hang on another one, nor on what lies beyond a part.
func TestSumHangsOnItsPartsAlone(t *testing.T) {
	b := varied(100)
	want := sha.Sum(b)
	sha.Sum(varied(77))
	longer := append(varied(100), "more"...)
	if got := sha.Sum(longer[:100]); got != want {
		t.Errorf("Sum with bytes beyond the part: %s, want %s", text(got), text(want))
	}
}

// R3: what is handed in stays as it was, also beyond the length of a part and of the list of parts.
func TestSumLeavesItsPartsAlone(t *testing.T) {
	for n := range 130 {
		b := varied(300)
		parts := [][]byte{b[:n], b[n : 2*n], nil, b[290:]}
		sha.Sum(parts[:2]...)
		sha.Sum(parts...)
		if !bytes.Equal(b, varied(300)) {
			t.Errorf("Sum of parts of %d bytes has changed bytes", n)
		}
		if len(parts[0]) != n || len(parts[1]) != n || parts[2] != nil || len(parts[3]) != 10 {
			t.Errorf("Sum of parts of %d bytes has changed the list", n)
		}
		if n > 0 && (&parts[0][0] != &b[0] || &parts[1][0] != &b[n]) {
			t.Errorf("Sum of parts of %d bytes has put other parts in the list", n)
		}
	}
}

// R2: calls at the same time, on the same parts, do not disturb each other.
func TestSumAtTheSameTime(t *testing.T) {
	b := varied(10000)
	want := api.Id(sha1.Sum(b))
	got := make(chan api.Id)
	for i := range 8 {
		go func() { got <- sha.Sum(cut(b, 60+i)...) }()
	}
	for range 8 {
		if id := <-got; id != want {
			t.Errorf("Sum at the same time: %s, want %s", text(id), text(want))
		}
	}
}
