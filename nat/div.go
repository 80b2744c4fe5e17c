package nat

import (
	"attest/limb"
)

// DivWord: a divided by w, and what is left; false: w is 0.
func DivWord(a []uint32, w uint32) ([]uint32, uint32, bool) {
	if w == 0 {
		return nil, 0, false
	}
	a = trim(a)
	out := make([]uint32, len(a))
	var left uint64
	for i := len(a) - 1; i >= 0; i-- {
		left = left<<32 | uint64(a[i])
		out[i] = uint32(left / uint64(w))
		left %= uint64(w)
	}
	return trim(out), uint32(left), true
}

// DivMod: a divided by b, rounded down, and what is left; false: b is nought.
func DivMod(a, b []uint32) ([]uint32, []uint32, bool) {
	a, b = trim(a), trim(b)
	if len(b) == 0 {
		return nil, nil, false
	}
	if limb.Cmp(a, b) < 0 {
		return nil, limb.Norm(a), true
	}
	if len(b) == 1 {
		q, r, _ := DivWord(a, b[0])
		return q, limb.Word(uint64(r)), true
	}
	if x, whole := limb.Low(a); whole {
		y, _ := limb.Low(b)
		return limb.Word(x / y), limb.Word(x % y), true
	}
	q, r := divLong(a, b)
	return q, r, true
}

// divLong: a divided by b, and what is left; b has two limbs or more, and is at most a. A digit of the quotient is
// guessed by the highest limbs; the guess is at most one too great if the divisor's highest bit is set, so both are
// shifted until it is.
func divLong(a, b []uint32) ([]uint32, []uint32) {
	n := len(b)
	shift := 32*n - limb.Bits(b)
	v, _ := limb.Shl(b, shift)
	moved, _ := limb.Shl(a, shift)
	u := make([]uint32, len(a)+1)
	copy(u, moved)
	q := make([]uint32, len(a)-n+1)
	for i := len(q) - 1; i >= 0; i-- {
		part := u[i : i+n+1]
		digit := guess(part, v)
		if takeAway(part, v, digit) {
			digit--
			putBack(part, v)
		}
		q[i] = uint32(digit)
	}
	r, _ := limb.Shr(u[:n], shift)
	return trim(q), r
}

// guess: how often v goes into u, which has one limb more: that, or one more.
func guess(u, v []uint32) uint64 {
	n := len(v)
	high, next := uint64(v[n-1]), uint64(v[n-2])
	top := uint64(u[n])<<32 | uint64(u[n-1])
	q, r := top/high, top%high
	for q>>32 != 0 || q*next > r<<32|uint64(u[n-2]) {
		q--
		r += high
		if r>>32 != 0 {
			break
		}
	}
	return q
}

// takeAway: u less q times v, in place; true: that is below nought, and has wrapped.
func takeAway(u, v []uint32, q uint64) bool {
	var carry, borrow uint64
	for i, w := range v {
		product := q*uint64(w) + carry
		diff := uint64(u[i]) - uint64(uint32(product)) - borrow
		u[i] = uint32(diff)
		carry, borrow = product>>32, diff>>63
	}
	diff := uint64(u[len(v)]) - carry - borrow
	u[len(v)] = uint32(diff)
	return diff>>63 == 1
}

// putBack: u and v, in place. The last carry meets the borrow that wrapped u, and is dropped.
func putBack(u, v []uint32) {
	var carry uint64
	for i, w := range v {
		sum := uint64(u[i]) + uint64(w) + carry
		u[i] = uint32(sum)
		carry = sum >> 32
	}
	u[len(v)] += uint32(carry)
}
