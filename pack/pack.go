// Package pack encodes integers and length-prefixed strings as bytes, and decodes them. It is layer 1: see shared/doc/01-pack.md.
package pack

import (
	"thimble/api"
)

// Each byte has seven bits of a number; the flag says that more bytes follow.
const (
	sevenBits = 7
	flag      = 1 << sevenBits
)

// The last byte that a number of 64 bits can have: nine bytes ahead of it have 63 bits, so it has one.
const (
	lastPlace = 9
	lastMost  = 1
)

// Num is a number as bytes: its bits in sevens, the lowest ones first.
func Num(n uint64) string {
	var b []byte
	for n >= flag {
		b = append(b, byte(n%flag)+flag)
		n /= flag
	}
	return string(append(b, byte(n)))
}

// TakeNum is the number with which a string begins, and what is behind it.
func TakeNum(s string) (uint64, string, api.Errno) {
	n := uint64(0)
taking:
	for i := range len(s) {
		b := s[i]
		switch {
		case i == lastPlace && b > lastMost:
			// Also a flag is too much there, so no string is gone through further.
			break taking
		case b >= flag:
			n += uint64(b-flag) << (sevenBits * i)
		case b == 0 && i > 0:
			// Num would have ended a byte earlier.
			break taking
		default:
			return n + uint64(b)<<(sevenBits*i), s[i+1:], api.OK
		}
	}
	return 0, "", api.ErrForm
}

// Int is a number, also one below 0, as bytes: those near 0 are short on both sides of it.
func Int(n int64) string {
	m := 2 * uint64(n)
	if n < 0 {
		m = -m - 1
	}
	return Num(m)
}

// TakeInt is the number, also one below 0, with which a string begins, and what is behind it.
func TakeInt(s string) (int64, string, api.Errno) {
	m, rest, e := TakeNum(s)
	if e != api.OK {
		return 0, "", e
	}
	half := int64(m / 2)
	if m%2 == 1 {
		// Turned ahead of taking 1 off, so that the least number doesn't leave the 64 bits on its way.
		half = -half - 1
	}
	return half, rest, api.OK
}

// Text is a text as bytes: how many bytes it has, and itself.
func Text(t string) string {
	return Num(uint64(len(t))) + t
}

// TakeText is the text of so many bytes at most with which a string begins, and what is behind it.
func TakeText(s string, most int) (string, string, api.Errno) {
	n, rest, e := TakeNum(s)
	if e != api.OK {
		return "", "", e
	}
	// Held against each other as numbers without a sign: n may be above every int.
	if most < 0 || n > uint64(most) || n > uint64(len(rest)) {
		return "", "", api.ErrForm
	}
	return rest[:n], rest[n:], api.OK
}
