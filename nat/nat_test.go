package nat

import (
	"math"
	"math/big"
	"slices"
	"testing"

	"attest/limb"
)

const top = math.MaxUint32

// noise: n limbs without a pattern, the same ones each time.
func noise(n int, seed uint64) []uint32 {
	out := make([]uint32, n)
	for i := range out {
		seed ^= seed << 13
		seed ^= seed >> 7
		seed ^= seed << 17
		out[i] = uint32(seed >> 16)
	}
	return out
}

// lists: nought in several writings, numbers with noughts at their end and within, full ones, and long ones.
func lists() [][]uint32 {
	out := [][]uint32{
		nil, {}, {0}, {0, 0, 0}, {1}, {1, 0}, {2}, {3}, {5, 0, 0}, {12}, {18}, {1 << 31}, {1<<31 - 1}, {top - 1}, {top}, {top, 0, 0},
		{0, 1}, {0, 0, 1}, {0, 4, 0}, {1, 1}, {top, top}, {top, top, 0}, {top, top, top}, {1 << 31, 1}, {0, 1 << 31}, {1, 1 << 31},
		{1, 2, 3}, {1, 2, 0}, {0, 0, 0, 0, 1 << 31}, {top, 0, top, 0}, {0, top, 1, 0}, {0, 0, 1 << 31, 1<<31 - 1}, {1, 0, 1 << 31},
	}
	for i := range 10 {
		out = append(out, noise(i*i%17+1, uint64(i)*7919+1))
		out = append(out, append(noise(i+1, uint64(i)*104729+5), 0, 0))
	}
	return append(out, slices.Repeat([]uint32{top}, 30), append(make([]uint32, 30), 6, 0))
}

// edges: all numbers of so many limbs each of which stands at an edge; among them are all those for which a guessed
// digit of a quotient is too great.
func edges(limbs int) [][]uint32 {
	out := [][]uint32{nil}
	for range limbs {
		var longer [][]uint32
		for _, list := range out {
			for _, v := range []uint32{0, 1, 1<<31 - 1, 1 << 31, top} {
				longer = append(longer, append(slices.Clone(list), v))
			}
		}
		out = longer
	}
	return out
}

func toBig(a []uint32) *big.Int {
	sum := new(big.Int)
	for i := len(a) - 1; i >= 0; i-- {
		sum.Lsh(sum, 32)
		sum.Or(sum, big.NewInt(int64(a[i])))
	}
	return sum
}

// limbs: a number that is 0 or above as the document wants an answer: no nought at the end.
func limbs(x *big.Int) []uint32 {
	var out []uint32
	x = new(big.Int).Set(x)
	for x.Sign() > 0 {
		out = append(out, uint32(x.Uint64()&top))
		x.Rsh(x, 32)
	}
	return out
}

func TestMul(t *testing.T) {
	for _, a := range lists() {
		for _, b := range lists() {
			want := limbs(new(big.Int).Mul(toBig(a), toBig(b)))
			if got := Mul(a, b); !slices.Equal(got, want) {
				t.Errorf("Mul(%v, %v) = %v, not %v", a, b, got, want)
			}
		}
	}
	if got := Mul([]uint32{top}, []uint32{top}); !slices.Equal(got, []uint32{1, top - 1}) {
		t.Errorf("Mul((2^32 - 1), (2^32 - 1)) = %v", got)
	}
	if got := Mul([]uint32{7}, []uint32{0, 0}); len(got) != 0 {
		t.Errorf("Mul((7), (0, 0)) = %v", got)
	}
}

// TestMulCarries: of numbers whose bits are all set every sum of a limb carries.
func TestMulCarries(t *testing.T) {
	for n := range 20 {
		for m := range 20 {
			a, b := slices.Repeat([]uint32{top}, n), slices.Repeat([]uint32{top}, m)
			if got := Mul(a, b); !slices.Equal(got, limbs(new(big.Int).Mul(toBig(a), toBig(b)))) {
				t.Errorf("%d full limbs times %d: %v", n, m, got)
			}
		}
	}
	a, b := noise(700, 3), noise(300, 4)
	if !slices.Equal(Mul(a, b), limbs(new(big.Int).Mul(toBig(a), toBig(b)))) {
		t.Error("700 limbs times 300")
	}
}

func checkDivWord(t *testing.T, a []uint32, w uint32) {
	t.Helper()
	q, r, ok := DivWord(a, w)
	if w == 0 {
		if ok || len(q) != 0 || r != 0 {
			t.Errorf("DivWord(%v, 0) = %v, %d, %v", a, q, r, ok)
		}
		return
	}
	wantQ, wantR := new(big.Int).QuoRem(toBig(a), big.NewInt(int64(w)), new(big.Int))
	if !ok || !slices.Equal(q, limbs(wantQ)) || uint64(r) != wantR.Uint64() {
		t.Errorf("DivWord(%v, %d) = %v, %d, %v", a, w, q, r, ok)
	}
}

func TestDivWord(t *testing.T) {
	for _, a := range lists() {
		for _, w := range []uint32{0, 1, 2, 3, 7, 10, 1000000000, 1<<31 - 1, 1 << 31, 1<<31 + 1, top - 1, top} {
			checkDivWord(t, a, w)
		}
	}
	if q, r, ok := DivWord([]uint32{1, 1}, 2); !ok || !slices.Equal(q, []uint32{1 << 31}) || r != 1 {
		t.Errorf("DivWord((1, 1), 2) = %v, %d, %v", q, r, ok)
	}
}

func checkDivMod(t *testing.T, a, b []uint32) {
	t.Helper()
	q, r, ok := DivMod(a, b)
	y := toBig(b)
	if y.Sign() == 0 {
		if ok || len(q) != 0 || len(r) != 0 {
			t.Errorf("DivMod(%v, %v) = %v, %v, %v", a, b, q, r, ok)
		}
		return
	}
	wantQ, wantR := new(big.Int).QuoRem(toBig(a), y, new(big.Int))
	if !ok || !slices.Equal(q, limbs(wantQ)) || !slices.Equal(r, limbs(wantR)) {
		t.Errorf("DivMod(%v, %v) = %v, %v, %v, not %v, %v", a, b, q, r, ok, limbs(wantQ), limbs(wantR))
	}
}

func TestDivMod(t *testing.T) {
	for _, a := range lists() {
		for _, b := range lists() {
			checkDivMod(t, a, b)
		}
	}
	q, r, ok := DivMod([]uint32{0, 0, 1}, []uint32{0, 1})
	if !ok || !slices.Equal(q, []uint32{0, 1}) || len(r) != 0 {
		t.Errorf("DivMod((0, 0, 1), (0, 1)) = %v, %v, %v", q, r, ok)
	}
	q, r, ok = DivMod([]uint32{5}, []uint32{7})
	if !ok || len(q) != 0 || !slices.Equal(r, []uint32{5}) {
		t.Errorf("DivMod((5), (7)) = %v, %v, %v", q, r, ok)
	}
	q, r, ok = DivMod([]uint32{5}, nil)
	if ok || len(q) != 0 || len(r) != 0 {
		t.Errorf("DivMod((5), ()) = %v, %v, %v", q, r, ok)
	}
}

// TestDivModAtEdges: the guesses of the quotient's digits are right, one too great, two too great, and as great as 2^32.
func TestDivModAtEdges(t *testing.T) {
	for _, divisors := range [][][]uint32{edges(1), edges(2), edges(3)} {
		for _, b := range divisors {
			for _, a := range edges(4) {
				checkDivMod(t, a, b)
			}
		}
	}
	for _, b := range edges(4) {
		for _, seed := range []uint64{1, 2, 3} {
			checkDivMod(t, noise(6, seed), b)
		}
	}
}

// TestDivModNearTheDivisor: dividends one below, at and one above the divisor and its multiples.
func TestDivModNearTheDivisor(t *testing.T) {
	for _, b := range lists() {
		for _, factor := range lists() {
			near := Mul(b, factor)
			below, _ := limb.Sub(near, []uint32{1})
			for _, a := range [][]uint32{near, below, limb.Add(near, []uint32{1}), append(slices.Clone(near), 0, 0)} {
				checkDivMod(t, a, b)
				checkDivMod(t, a, append(slices.Clone(b), 0, 0, 0))
			}
		}
	}
	checkDivMod(t, noise(700, 3), noise(300, 4))
	checkDivMod(t, noise(700, 3), noise(699, 4))
}

func checkGcd(t *testing.T, a, b []uint32) {
	t.Helper()
	x, y := toBig(a), toBig(b)
	gcd, lcm := new(big.Int).GCD(nil, nil, x, y), new(big.Int)
	if gcd.Sign() != 0 {
		lcm.Mul(lcm.Quo(x, gcd), y)
	}
	if got := Gcd(a, b); !slices.Equal(got, limbs(gcd)) {
		t.Errorf("Gcd(%v, %v) = %v, not %v", a, b, got, limbs(gcd))
	}
	if got := Lcm(a, b); !slices.Equal(got, limbs(lcm)) {
		t.Errorf("Lcm(%v, %v) = %v, not %v", a, b, got, limbs(lcm))
	}
}

func TestGcd(t *testing.T) {
	for _, a := range lists() {
		for _, b := range lists() {
			checkGcd(t, a, b)
		}
	}
	for _, b := range edges(3) {
		for _, a := range edges(4) {
			checkGcd(t, a, b)
		}
	}
	if got := Gcd([]uint32{12}, []uint32{18}); !slices.Equal(got, []uint32{6}) {
		t.Errorf("Gcd((12), (18)) = %v", got)
	}
	if got := Lcm([]uint32{4}, []uint32{6}); !slices.Equal(got, []uint32{12}) {
		t.Errorf("Lcm((4), (6)) = %v", got)
	}
}

func TestGcdOfNoughts(t *testing.T) {
	five := []uint32{5}
	for _, nought := range [][]uint32{nil, {}, {0}, {0, 0, 0}} {
		if got := Gcd(nought, five); !slices.Equal(got, five) {
			t.Errorf("Gcd(%v, (5)) = %v", nought, got)
		}
		if got := Gcd([]uint32{5, 0}, nought); !slices.Equal(got, five) {
			t.Errorf("Gcd((5, 0), %v) = %v", nought, got)
		}
		if len(Gcd(nought, nought)) != 0 || len(Lcm(nought, nought)) != 0 || len(Lcm(nought, five)) != 0 || len(Lcm(five, nought)) != 0 {
			t.Errorf("%v", nought)
		}
	}
}

// TestGcdWithCommonDivisors: long numbers that have a long divisor in common, or are neighbours in a row in which every
// quotient is 1 (the most steps), or differ little (the highest bits tell nothing).
func TestGcdWithCommonDivisors(t *testing.T) {
	for _, common := range lists() {
		for i := range 9 {
			a, b := Mul(common, noise(3*i+1, uint64(i)+11)), Mul(common, noise(2*i+2, uint64(i)+99))
			checkGcd(t, a, b)
			checkGcd(t, a, limb.Add(a, common))
			checkGcd(t, limb.Add(a, []uint32{1}), a)
		}
	}
	a, b := []uint32{1}, []uint32{1}
	for range 3000 {
		a, b = limb.Add(a, b), a
	}
	checkGcd(t, a, b)
	checkGcd(t, b, a)
	checkGcd(t, Mul(a, noise(20, 5)), Mul(b, noise(20, 5)))
}

// TestGcdOfManyTwos: more noughts at the low end than a shift may move.
func TestGcdOfManyTwos(t *testing.T) {
	far := make([]uint32, 3200)
	a, b := append(slices.Clone(far), 12), append(slices.Clone(far), 18, 1)
	checkGcd(t, a, b)
	checkGcd(t, a, []uint32{0, 0, 0, 24})
}

func TestPow(t *testing.T) {
	for _, a := range lists() {
		for _, n := range []int{0, 1, 2, 3, 4, 5, 7, 8, 15, 16, 31, 100, 511, 512, 999, MaxPow} {
			want := limbs(new(big.Int).Exp(toBig(a), big.NewInt(int64(n)), nil))
			fits := n*limb.Bits(a) <= MaxPowBits
			if got, ok := Pow(a, n); ok != fits || ok && !slices.Equal(got, want) || !ok && len(got) != 0 {
				t.Errorf("Pow(%v, %d): %v", a, n, ok)
			}
		}
	}
	if got, ok := Pow([]uint32{2}, 32); !ok || !slices.Equal(got, []uint32{0, 1}) {
		t.Errorf("Pow((2), 32) = %v, %v", got, ok)
	}
	if got, ok := Pow(nil, 0); !ok || !slices.Equal(got, []uint32{1}) {
		t.Errorf("Pow((), 0) = %v, %v", got, ok)
	}
	if got, ok := Pow([]uint32{0, 0}, 5); !ok || len(got) != 0 {
		t.Errorf("Pow((0, 0), 5) = %v, %v", got, ok)
	}
}

func TestPowOfEachExponent(t *testing.T) {
	want := big.NewInt(1)
	for n := range MaxPow + 1 {
		if got, ok := Pow([]uint32{3, 0}, n); !ok || !slices.Equal(got, limbs(want)) {
			t.Errorf("Pow((3, 0), %d) = %v, %v", n, got, ok)
		}
		want.Mul(want, big.NewInt(3))
	}
}

// powOfTwo: 2^bits, which has one bit more.
func powOfTwo(bits int) []uint32 {
	return limbs(new(big.Int).Lsh(big.NewInt(1), uint(bits)))
}

func TestPowAtItsLimits(t *testing.T) {
	cases := []struct {
		a    []uint32
		n    int
		fits bool
	}{
		{powOfTwo(99), 1000, true}, {powOfTwo(100), 1000, false}, {powOfTwo(99999), 1, true}, {powOfTwo(100000), 1, false},
		{powOfTwo(49999), 2, true}, {powOfTwo(50000), 2, false}, {powOfTwo(33332), 3, true}, {powOfTwo(33333), 3, false},
		{powOfTwo(100), 990, true}, {powOfTwo(100), 991, false}, {powOfTwo(200000), 0, true}, {[]uint32{0, 1}, 1000, true},
		{append(powOfTwo(99), 0, 0, 0), 1000, true}, {[]uint32{1}, MaxPow, true}, {[]uint32{1}, MaxPow + 1, false}, {nil, MaxPow + 1, false},
		{[]uint32{2}, -1, false}, {nil, -1, false}, {nil, math.MinInt, false}, {[]uint32{1}, math.MaxInt, false}, {nil, math.MaxInt, false},
	}
	for _, c := range cases {
		got, ok := Pow(c.a, c.n)
		if ok != c.fits || !ok && len(got) != 0 {
			t.Errorf("a number of %d bits to the %d: %v", limb.Bits(c.a), c.n, ok)
		}
		if ok && !slices.Equal(got, limbs(new(big.Int).Exp(toBig(c.a), big.NewInt(int64(c.n)), nil))) {
			t.Errorf("a number of %d bits to the %d is wrong", limb.Bits(c.a), c.n)
		}
	}
}

// roomy: a list with room behind it that is filled, so that a write there shows.
func roomy(list []uint32, fill uint32) []uint32 {
	return slices.Concat(list, slices.Repeat([]uint32{fill}, 9))[:len(list)]
}

func whole(list []uint32) []uint32 {
	return list[:cap(list)]
}

// answers: the lists that all calls of these answer.
func answers(a, b []uint32) [][]uint32 {
	out := [][]uint32{Mul(a, b), Mul(b, a), Gcd(a, b), Gcd(b, a), Lcm(a, b), Lcm(b, a)}
	q, r, _ := DivMod(a, b)
	out = append(out, q, r)
	q, _, _ = DivWord(a, 7)
	out = append(out, q)
	for n := range 3 {
		p, _ := Pow(a, n)
		out = append(out, p)
	}
	return out
}

func copies(all [][]uint32) [][]uint32 {
	var out [][]uint32
	for _, list := range all {
		out = append(out, slices.Clone(list))
	}
	return out
}

func TestListsHandedInStay(t *testing.T) {
	for _, first := range lists() {
		for _, second := range lists() {
			a, b := roomy(first, 0x55), roomy(second, 0x66)
			beforeA, beforeB := slices.Clone(whole(a)), slices.Clone(whole(b))
			got := answers(a, b)
			kept := copies(got)
			again := answers(a, b)
			for i := range got {
				for j, list := 0, whole(got[i]); j < len(list); j++ {
					list[j] = 99
				}
				for j := i + 1; j < len(got); j++ {
					if !slices.Equal(got[j], kept[j]) {
						t.Fatalf("answers %d and %d of %v, %v share memory", i, j, a, b)
					}
				}
			}
			if !slices.Equal(whole(a), beforeA) || !slices.Equal(whole(b), beforeB) {
				t.Fatalf("%v, %v were changed", first, second)
			}
			if !slices.EqualFunc(again, kept, slices.Equal[[]uint32]) {
				t.Fatalf("%v, %v: answers of two calls share memory, or differ", first, second)
			}
		}
	}
}

func TestOneListTwice(t *testing.T) {
	for _, list := range lists() {
		a := roomy(list, 0x55)
		before := slices.Clone(whole(a))
		checkGcd(t, a, a)
		checkDivMod(t, a, a)
		if !slices.Equal(Mul(a, a), limbs(new(big.Int).Mul(toBig(list), toBig(list)))) {
			t.Errorf("%v times itself", list)
		}
		if !slices.Equal(whole(a), before) {
			t.Errorf("%v was changed", list)
		}
	}
}
