package nat

import (
	"attest/limb"
)

// Gcd: the greatest common divisor; of a and nought a.
func Gcd(a, b []uint32) []uint32 {
	x, y := limb.Norm(a), limb.Norm(b)
	if limb.Cmp(x, y) < 0 {
		x, y = y, x
	}
	for len(y) > 2 {
		x, y = nearer(x, y)
	}
	if len(y) == 0 {
		return x
	}
	if len(x) > 2 {
		x, y = euclid(x, y)
	}
	p, _ := limb.Low(x)
	q, _ := limb.Low(y)
	for q != 0 {
		p, q = q, p%q
	}
	return limb.Word(p)
}

// Lcm: the least common multiple; of nought and whatever nought.
func Lcm(a, b []uint32) []uint32 {
	q, _, some := DivMod(a, Gcd(a, b))
	if !some {
		return nil
	}
	return Mul(q, b)
}

// euclid: the pair that follows x and y in Euclid's row.
func euclid(x, y []uint32) ([]uint32, []uint32) {
	_, r, _ := DivMod(x, y)
	return y, r
}

// nearer: a pair that follows x and y in Euclid's row, as many places on as is seen cheaply. x is at least y, y has
// three limbs or more. (Euclid's own step on long numbers is dear and gains two bits or so; Lehmer's way makes a score
// of steps on the highest bits alone, and brings them to the whole numbers at once.)
func nearer(x, y []uint32) ([]uint32, []uint32) {
	first, second, even := ahead(x, y)
	if first.y == 0 {
		return euclid(x, y)
	}
	if even {
		return differ(x, first.x, y, first.y), differ(y, second.y, x, second.x)
	}
	return differ(y, first.y, x, first.x), differ(x, second.x, y, second.y)
}

// factors: a number of Euclid's row is x taken so often and y so often; one of the two counts is below nought, and
// stands here without its sign.
type factors struct {
	x, y uint64
}

// ahead: two neighbours of Euclid's row from x and y on; even: the first one's count of y is below nought, and the
// second one's of x; else the other way round. Only the highest 64 bits are looked at: the steps end where the bits
// that aren't seen might change a quotient (Collins's condition, see Jebelean's "A double-digit Lehmer-Euclid
// algorithm"). All counts that are answered are below 2^32: where a step is made, the divisor is at least the last
// count, and their product is at most the first 64 bits.
func ahead(x, y []uint32) (first, second factors, even bool) {
	n := len(x)
	shift := uint(32*n - limb.Bits(x))
	a, b := highest(x, n, shift), highest(y, n, shift)
	second = factors{1, 0}
	third := factors{0, 1}
	for b >= third.y && a-b >= second.y+third.y {
		q := a / b
		a, b = b, a%b
		first, second, third = second, third, factors{second.x + q*third.x, second.y + q*third.y}
		even = !even
	}
	return first, second, even
}

// highest: the 64 bits of a below 2^(32n - shift).
func highest(a []uint32, n int, shift uint) uint64 {
	high := uint64(at(a, n-1))<<32 | uint64(at(a, n-2))
	return high<<shift | uint64(at(a, n-3))>>(32-shift)
}

// at: the limb at i; beyond the list all limbs are nought.
func at(a []uint32, i int) uint32 {
	if i < len(a) {
		return a[i]
	}
	return 0
}

// differ: x taken p times, less y taken q times; p and q are below 2^32, and what is left is from nought on and below
// the greater one of x and y.
func differ(x []uint32, p uint64, y []uint32, q uint64) []uint32 {
	out := make([]uint32, max(len(x), len(y)))
	var plus, minus, borrow uint64
	for i := range out {
		plus += p * uint64(at(x, i))
		minus += q * uint64(at(y, i))
		diff := uint64(uint32(plus)) - uint64(uint32(minus)) - borrow
		out[i] = uint32(diff)
		plus, minus, borrow = plus>>32, minus>>32, diff>>63
	}
	return trim(out)
}
