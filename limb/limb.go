// Package limb is layer 2: see shared/doc/02-limb.md.
package limb

import (
	"math/bits"

	"attest/api"
)

// trim: the limbs without the noughts at their end. It shares a's memory, so it is for reading alone, or for a list
// that was made here.
func trim(a []uint32) []uint32 {
	n := len(a)
	for n > 0 && a[n-1] == 0 {
		n--
	}
	return a[:n]
}

// Norm: the number without noughts at its end, in new memory.
func Norm(a []uint32) []uint32 {
	a = trim(a)
	out := make([]uint32, len(a))
	copy(out, a)
	return out
}

// Cmp: -1, 0, 1: a below, equal to, above b.
func Cmp(a, b []uint32) int {
	a, b = trim(a), trim(b)
	if len(a) != len(b) {
		return order(len(a) < len(b))
	}
	for i := len(a) - 1; i >= 0; i-- {
		if a[i] != b[i] {
			return order(a[i] < b[i])
		}
	}
	return 0
}

func order(below bool) int {
	if below {
		return -1
	}
	return 1
}

// Bits: the least n with a < 2^n.
func Bits(a []uint32) int {
	a = trim(a)
	if len(a) == 0 {
		return 0
	}
	return 32*(len(a)-1) + bits.Len32(a[len(a)-1])
}

// Bit: is bit n set?
func Bit(a []uint32, n int) bool {
	if n < 0 || n>>5 >= len(a) {
		return false
	}
	return a[n>>5]>>uint(n&31)&1 == 1
}

// Twos: the greatest n for which 2^n divides a; 0 of nought.
func Twos(a []uint32) int {
	for i, v := range a {
		if v != 0 {
			return 32*i + bits.TrailingZeros32(v)
		}
	}
	return 0
}

// Add: a + b.
func Add(a, b []uint32) []uint32 {
	a, b = trim(a), trim(b)
	if len(a) < len(b) {
		a, b = b, a
	}
	out := make([]uint32, len(a)+1)
	var carry uint64
	for i, v := range a {
		sum := uint64(v) + carry
		if i < len(b) {
			sum += uint64(b[i])
		}
		out[i] = uint32(sum)
		carry = sum >> 32
	}
	out[len(a)] = uint32(carry)
	return trim(out)
}

// Sub: a - b; false: it is below nought.
func Sub(a, b []uint32) ([]uint32, bool) {
	if Cmp(a, b) < 0 {
		return nil, false
	}
	a, b = trim(a), trim(b)
	out := make([]uint32, len(a))
	var borrow uint64
	for i, v := range a {
		diff := uint64(v) - borrow
		if i < len(b) {
			diff -= uint64(b[i])
		}
		out[i] = uint32(diff)
		// A difference below nought has wrapped: its highest bit is set then, and only then.
		borrow = diff >> 63
	}
	return trim(out), true
}

// Shl: a times 2^n.
func Shl(a []uint32, n int) ([]uint32, bool) {
	if n < 0 || n > api.MaxShift {
		return nil, false
	}
	a = trim(a)
	if len(a) == 0 {
		return nil, true
	}
	whole, part := n>>5, uint(n&31)
	out := make([]uint32, len(a)+whole+1)
	for i, v := range a {
		wide := uint64(v) << part
		out[i+whole] |= uint32(wide)
		out[i+whole+1] = uint32(wide >> 32)
	}
	return trim(out), true
}

// Shr: a divided by 2^n, rounded down.
func Shr(a []uint32, n int) ([]uint32, bool) {
	if n < 0 || n > api.MaxShift {
		return nil, false
	}
	a = trim(a)
	whole, part := n>>5, uint(n&31)
	if whole >= len(a) {
		return nil, true
	}
	a = a[whole:]
	out := make([]uint32, len(a))
	for i, v := range a {
		wide := uint64(v)
		if i+1 < len(a) {
			wide |= uint64(a[i+1]) << 32
		}
		out[i] = uint32(wide >> part)
	}
	return trim(out), true
}

// Word: the limbs of a 64-bit number.
func Word(u uint64) []uint32 {
	return trim([]uint32{uint32(u), uint32(u >> 32)})
}

// Low: a modulo 2^64, and is that all of it?
func Low(a []uint32) (uint64, bool) {
	a = trim(a)
	var u uint64
	for i := 0; i < len(a) && i < 2; i++ {
		u |= uint64(a[i]) << uint(32*i)
	}
	return u, len(a) <= 2
}

// Pack: the limbs as bytes, the lowest first, none at the end nought.
func Pack(a []uint32) []byte {
	a = trim(a)
	out := make([]byte, 0, 4*len(a))
	for _, v := range a {
		out = append(out, uint8(v), uint8(v>>8), uint8(v>>16), uint8(v>>24))
	}
	for len(out) > 0 && out[len(out)-1] == 0 {
		out = out[:len(out)-1]
	}
	return out
}

// Unpack: the number of these bytes, the lowest first.
func Unpack(b []byte) []uint32 {
	out := make([]uint32, (len(b)+3)/4)
	for i, c := range b {
		out[i/4] |= uint32(c) << uint(8*(i%4))
	}
	return trim(out)
}
