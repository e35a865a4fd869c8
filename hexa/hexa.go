// Package hexa is layer 1: see shared/doc/01-hexa.md.
package hexa

import (
	"math"
	"strconv"
	"strings"

	"trestle/api"
)

const digits = "0123456789abcdef"

// Hex tells bytes as hexadecimal digits, two for each.
func Hex(b []byte) string {
	var s strings.Builder
	s.Grow(2 * len(b))
	for _, c := range b {
		s.WriteByte(digits[c>>4])
		s.WriteByte(digits[c&15])
	}
	return s.String()
}

// Unhex reads what Hex tells.
func Unhex(s string) ([]byte, api.Errno) {
	if len(s)%2 != 0 {
		return nil, api.ErrForm
	}
	b := make([]byte, len(s)/2)
	for i, r := range s {
		d, ok := digit(r, 16)
		if !ok {
			return nil, api.ErrForm
		}
		b[i/2] = b[i/2]<<4 | byte(d)
	}
	return b, api.OK
}

// Id reads an id that Hex tells.
func Id(s string) (api.Id, api.Errno) {
	var id api.Id
	if len(s) != 2*len(id) {
		return api.Id{}, api.ErrForm
	}
	b, err := Unhex(s)
	if err != api.OK {
		return api.Id{}, err
	}
	copy(id[:], b)
	return id, api.OK
}

// Number tells a number in decimal digits.
func Number(v int64) string {
	return strconv.FormatInt(v, 10)
}

// TakeNumber reads what Number tells.
func TakeNumber(s string) (int64, api.Errno) {
	if s == "" {
		return 0, api.ErrShort
	}
	rest, negative := strings.CutPrefix(s, "-")
	if rest == "" || rest[0] == '0' && s != "0" {
		return 0, api.ErrForm
	}
	least := int64(-math.MaxInt64)
	if negative {
		least = math.MinInt64
	}
	v, ok := negated(rest, least)
	if !ok {
		return 0, api.ErrForm
	}
	if !negative {
		v = -v
	}
	return v, api.OK
}

// Compare holds two strings against each other, byte by byte.
func Compare(a, b string) int {
	return strings.Compare(a, b)
}

// negated reads decimal digits as the number below zero that they are with a
// sign; false: another character, or a number below least. The least number
// of 64 bits has no counterpart above zero, so the way leads below zero.
func negated(s string, least int64) (int64, bool) {
	v := int64(0)
	for _, r := range s {
		d, ok := digit(r, 10)
		if !ok || v < (least+d)/10 {
			return 0, false
		}
		v = v*10 - d
	}
	return v, true
}

// digit tells what a rune stands for as a digit of the base; false: it is none.
func digit(r rune, base int64) (int64, bool) {
	d := base
	switch {
	case '0' <= r && r <= '9':
		d = int64(r - '0')
	case 'a' <= r && r <= 'f':
		d = int64(r-'a') + 10
	}
	if d >= base {
		return 0, false
	}
	return d, true
}
