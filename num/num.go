// Package num is layer 1: integers as bytes, each in exactly one way (see shared/doc/01-num.md).
package num

import (
	"math"
	"slices"

	"winnower/api"
)

const (
	digitBits = 7
	base      = 1 << digitBits // also the mark of a digit that is not the last one
	maxDigits = 10             // enough for 64 bits, of which the last digit has just one
)

// Put returns b followed by the varint of the zigzag value of n.
func Put(b []byte, n int) []byte {
	return putVarint(b, zigzag(n))
}

// PutLen returns b followed by the varint of n, or just b if n is negative.
func PutLen(b []byte, n int) []byte {
	if n < 0 {
		// A copy, because the result belongs to the caller here too.
		return slices.Clone(b)
	}
	return putVarint(b, uint64(n))
}

// Get returns the integer that b begins with, as Put encodes it, and the number of its digits.
func Get(b []byte) (int, int, api.Errno) {
	u, digits, e := getVarint(b)
	if e != api.OK {
		return 0, 0, e
	}
	return unzigzag(u), digits, api.OK
}

// GetLen returns the number that b begins with, as PutLen encodes it, and the number of its digits.
func GetLen(b []byte) (int, int, api.Errno) {
	u, digits, e := getVarint(b)
	if e != api.OK {
		return 0, 0, e
	}
	if u > math.MaxInt64 {
		return 0, 0, api.ErrForm
	}
	return int(u), digits, api.OK
}

// Size returns the number of digits that Put appends for n.
func Size(n int) int {
	digits := 1
	for u := zigzag(n); u >= base; u >>= digitBits {
		digits++
	}
	return digits
}

// zigzag gives small numbers to integers near zero on either side. The shift of n
// fills all bits with its sign, so that the least integer does not overflow.
func zigzag(n int) uint64 {
	return uint64(n)<<1 ^ uint64(n>>63)
}

func unzigzag(u uint64) int {
	return int(u>>1) ^ -int(u&1)
}

func putVarint(b []byte, u uint64) []byte {
	// With no capacity left the first append moves to a new array: the caller's
	// bytes, also those after the length of b, stay as they are.
	b = b[:len(b):len(b)]
	for u >= base {
		b = append(b, byte(u%base)+base)
		u >>= digitBits
	}
	return append(b, byte(u))
}

func getVarint(b []byte) (uint64, int, api.Errno) {
	var u uint64
	for i, c := range b {
		// Only one bit of 64 remains for the tenth digit. As a greater byte is refused
		// here, even one that announces more digits, the loop ends at this digit.
		if i == maxDigits-1 && c > 1 {
			return 0, 0, api.ErrForm
		}
		u |= uint64(c%base) << (digitBits * i)
		if c >= base {
			continue
		}
		if c == 0 && i > 0 {
			return 0, 0, api.ErrForm
		}
		return u, i + 1, api.OK
	}
	return 0, 0, api.ErrShort
}
