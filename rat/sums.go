package rat

import (
	"math/bits"

	"attest/limb"
	"attest/nat"
)

// common: the greatest common divisor of two words.
func common(a, b uint64) uint64 {
	for b != 0 {
		a, b = b, a%b
	}
	return a
}

// part: a divided by g, which divides it. Where g is 1 that is a itself.
func part(a, g []uint32) []uint32 {
	if limb.Bits(g) == 1 {
		return a
	}
	q, _, _ := nat.DivMod(a, g)
	return q
}

// Add: a + b.
func Add(a, b Rat) Rat {
	if a.long == nil && b.long == nil {
		if sum, ok := addWords(a, b); ok {
			return sum
		}
	}
	an, ad := a.spread()
	bn, bd := b.spread()
	// What the numbers below the bar have in common is the only thing that the sum can be shortened by: so the divisor
	// is looked for among small numbers, and mostly is 1.
	g := nat.Gcd(ad, bd)
	rest := part(ad, g)
	neg, num := join(a.neg, nat.Mul(an, part(bd, g)), b.neg, nat.Mul(bn, rest))
	h := nat.Gcd(num, g)
	return fit(neg, part(num, h), nat.Mul(rest, part(bd, h)))
}

// join: the sum of x and y, each with its sign. (Of nought the sign has no meaning.)
func join(xNeg bool, x []uint32, yNeg bool, y []uint32) (bool, []uint32) {
	if xNeg == yNeg {
		return xNeg, limb.Add(x, y)
	}
	if diff, ok := limb.Sub(x, y); ok {
		return xNeg, diff
	}
	diff, _ := limb.Sub(y, x)
	return yNeg, diff
}

// addWords: Add of numbers in words, done in the same way; false: a word was too small for it.
func addWords(a, b Rat) (Rat, bool) {
	g := common(a.den(), b.den())
	rest := a.den() / g
	over, x := bits.Mul64(a.num, b.den()/g)
	over2, y := bits.Mul64(b.num, rest)
	neg, num, over3 := joinWords(a.neg, x, b.neg, y)
	if over|over2|over3 != 0 {
		return Rat{}, false
	}
	h := common(num, g)
	over, den := bits.Mul64(rest, b.den()/h)
	return short(neg, num/h, den), over == 0
}

// joinWords: join of two words; the last number isn't 0, if the sum is no word.
func joinWords(xNeg bool, x uint64, yNeg bool, y uint64) (bool, uint64, uint64) {
	if xNeg == yNeg {
		sum, over := bits.Add64(x, y, 0)
		return xNeg, sum, over
	}
	if x >= y {
		return xNeg, x - y, 0
	}
	return yNeg, y - x, 0
}

// Sub: a - b.
func Sub(a, b Rat) Rat {
	return Add(a, Neg(b))
}

// Mul: a * b.
func Mul(a, b Rat) Rat {
	if a.long == nil && b.long == nil {
		if product, ok := mulWords(a, b); ok {
			return product
		}
	}
	an, ad := a.spread()
	bn, bd := b.spread()
	// Only across can there be common divisors; taken out ahead of the products they are cheaper to find.
	g, h := nat.Gcd(an, bd), nat.Gcd(bn, ad)
	return fit(a.neg != b.neg, nat.Mul(part(an, g), part(bn, h)), nat.Mul(part(ad, h), part(bd, g)))
}

// mulWords: Mul of numbers in words, done in the same way; false: a word was too small for it.
func mulWords(a, b Rat) (Rat, bool) {
	g, h := common(a.num, b.den()), common(b.num, a.den())
	over, num := bits.Mul64(a.num/g, b.num/h)
	over2, den := bits.Mul64(a.den()/h, b.den()/g)
	return short(a.neg != b.neg, num, den), over|over2 == 0
}

// Inv: 1 / a; false: a is 0.
func Inv(a Rat) (Rat, bool) {
	if Sign(a) == 0 {
		return Rat{}, false
	}
	if a.long != nil {
		return Rat{neg: a.neg, long: &lists{a.long.den, a.long.num}}, true
	}
	return short(a.neg, a.den(), a.num), true
}

// Div: a / b; false: b is 0.
func Div(a, b Rat) (Rat, bool) {
	turned, ok := Inv(b)
	if !ok {
		return Rat{}, false
	}
	return Mul(a, turned), true
}

// Sum: of all of them.
func Sum(l []Rat) Rat {
	var sum Rat
	for _, r := range l {
		sum = Add(sum, r)
	}
	return sum
}
