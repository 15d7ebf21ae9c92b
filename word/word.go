// Package word is layer 1: 64-bit words and what is packed into them.
// See shared/doc/01-word.md.
package word

import "organon/api"

// wordBits is the number of bits of a word, and so of the numbers that can be in a set.
const wordBits = 64

// The greatest values of the fields of a packed head, and where the fields begin.
const (
	maxKind = 1<<8 - 1
	maxId   = 1<<16 - 1
	maxKids = 1<<8 - 1

	kindShift = 24
	idShift   = 8
)

// A varint has seven bits of its number in each byte; the eighth says that more bytes follow.
const (
	groupBits = 7
	groupMask = 1<<groupBits - 1
	moreBit   = 1 << groupBits

	// Nine groups hold 63 bits, so that only one bit is left for the tenth byte.
	maxVarint = 10
	maxTenth  = 1
)

// The numbers that define the digest.
const (
	digestStart = 0xCBF29CE484222325
	mixFactor   = 0x9E3779B97F4A7C15
	mixTurn     = 27
	mixShift    = 31
)

// Set returns the set of the numbers in l; ErrArg: one of them is not from 0 to 63.
func Set(l []int) (uint64, api.Errno) {
	s := uint64(0)
	for _, n := range l {
		if !fits(n) {
			return 0, api.ErrArg
		}
		s = With(s, n)
	}
	return s, api.OK
}

// List returns the elements of s in increasing order.
func List(s uint64) []int {
	l := make([]int, 0, Count(s))
	for n := range wordBits {
		if Has(s, n) {
			l = append(l, n)
		}
	}
	return l
}

// Has reports whether n is an element of s.
func Has(s uint64, n int) bool {
	return fits(n) && s>>uint(n)&1 == 1
}

// With returns s with n added, or s itself if n can't be in a set.
func With(s uint64, n int) uint64 {
	if !fits(n) {
		return s
	}
	return s | 1<<uint(n)
}

// Without returns s with n removed.
func Without(s uint64, n int) uint64 {
	if !fits(n) {
		return s
	}
	return s &^ (1 << uint(n))
}

// Count returns the number of elements of s.
func Count(s uint64) int {
	c := 0
	for n := range wordBits {
		if Has(s, n) {
			c++
		}
	}
	return c
}

// Least returns the smallest element of s, or -1 if s is empty.
func Least(s uint64) int {
	for n := range wordBits {
		if Has(s, n) {
			return n
		}
	}
	return -1
}

// Pack returns the three fields of a head in one word; ErrArg: one of them is out of its range.
func Pack(kind, id, kids int) (uint32, api.Errno) {
	if !within(kind, maxKind) || !within(id, maxId) || !within(kids, maxKids) {
		return 0, api.ErrArg
	}
	return uint32(kind)<<kindShift | uint32(id)<<idShift | uint32(kids), api.OK
}

// Unpack returns the fields of a packed head: kind, id, kids.
func Unpack(h uint32) (int, int, int) {
	return int(uint8(h >> kindShift)), int(uint16(h >> idShift)), int(uint8(h))
}

// Put returns the varint of n.
func Put(n uint64) []byte {
	b := make([]byte, 0, maxVarint)
	for n > groupMask {
		b = append(b, byte(n&groupMask|moreBit))
		n >>= groupBits
	}
	return append(b, byte(n))
}

// Get returns the value and the length of the varint at the beginning of b.
// ErrShort: b ends within it; ErrForm: it is too great, or not as short as it could be.
func Get(b []byte) (uint64, int, api.Errno) {
	n := uint64(0)
	for i, c := range b {
		// This also ends the loop: a tenth byte that says that more bytes follow is too great.
		if i == maxVarint-1 && c > maxTenth {
			return 0, 0, api.ErrForm
		}
		n |= uint64(c&groupMask) << uint(groupBits*i)
		if c&moreBit != 0 {
			continue
		}
		if c == 0 && i > 0 {
			return 0, 0, api.ErrForm
		}
		return n, i + 1, api.OK
	}
	return 0, 0, api.ErrShort
}

// Fold maps 0, -1, 1, -2 and so on to 0, 1, 2, 3 and so on.
func Fold(n int64) uint64 {
	// -2n - 1 is 2n with all bits inverted, and the smallest int64 has no negative to compute it from.
	return uint64(n)<<1 ^ uint64(n>>(wordBits-1))
}

// Unfold returns the n for which Fold(n) is u.
func Unfold(u uint64) int64 {
	return int64(u>>1) ^ -int64(u&1)
}

// Narrow returns the number that the lowest width bits of n are with a sign; ErrArg: width is not from 1 to 64.
func Narrow(n int64, width int) (int64, api.Errno) {
	if width < 1 || width > wordBits {
		return 0, api.ErrArg
	}
	rest := uint(wordBits - width)
	return n << rest >> rest, api.OK
}

// Turn returns u rotated to the left; a negative number of bits rotates it to the right.
func Turn(u uint64, by int) uint64 {
	// The lowest six bits are the number modulo 64, of a negative one too.
	left := uint(by) % wordBits
	return u<<left | u>>(wordBits-left)
}

// Mix returns the digest h continued by x.
func Mix(h, x uint64) uint64 {
	v := Turn(h^x, mixTurn) * mixFactor
	return v ^ v>>mixShift
}

// Digest returns the digest of b.
func Digest(b []byte) uint64 {
	h := uint64(digestStart)
	for _, c := range b {
		h = Mix(h, uint64(c))
	}
	return Mix(h, uint64(len(b)))
}

// Cut returns the highest bits of d as a number; ErrArg: there are not so many bits.
func Cut(d uint64, bits int) (uint64, api.Errno) {
	if !within(bits, wordBits) {
		return 0, api.ErrArg
	}
	return d >> uint(wordBits-bits), api.OK
}

// fits reports whether n can be an element of a set.
func fits(n int) bool {
	return within(n, wordBits-1)
}

// within reports whether n is from 0 to most.
func within(n, most int) bool {
	return n >= 0 && n <= most
}
