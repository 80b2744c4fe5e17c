package rat

import (
	"math"
	"math/big"
	"reflect"
	"slices"
	"testing"

	"attest/limb"
)

const top = math.MaxUint32

func toBig(a []uint32) *big.Int {
	sum := new(big.Int)
	for i := len(a) - 1; i >= 0; i-- {
		sum.Lsh(sum, 32)
		sum.Or(sum, big.NewInt(int64(a[i])))
	}
	return sum
}

// limbs: the size of a number as the document wants a list: no nought at the end.
func limbs(x *big.Int) []uint32 {
	var out []uint32
	x = new(big.Int).Abs(x)
	for x.Sign() > 0 {
		out = append(out, uint32(x.Uint64()&top))
		x.Rsh(x, 32)
	}
	return out
}

// noise: n limbs without a pattern, the same ones each time.
func noise(n int, seed uint64) []uint32 {
	out := make([]uint32, n)
	for i := range out {
		seed ^= seed << 13
		seed ^= seed >> 7
		seed ^= seed << 17
		out[i] = uint32(seed >> 16)
	}
	return out
}

// sizes: numbers about the edges of ints, of words and of limbs, and long ones with and without common divisors.
func sizes() []*big.Int {
	out := []*big.Int{big.NewInt(1), big.NewInt(2), big.NewInt(3), big.NewInt(6), big.NewInt(10)}
	for _, n := range []uint{31, 32, 62, 63, 64, 96, 127} {
		p := new(big.Int).Lsh(big.NewInt(1), n)
		out = append(out, new(big.Int).Sub(p, big.NewInt(1)), p, new(big.Int).Add(p, big.NewInt(1)))
	}
	return append(out, toBig(noise(4, 7)), toBig(noise(9, 8)), new(big.Int).Mul(toBig(noise(9, 8)), toBig(noise(3, 7))))
}

// numbers: 0, the sizes above and below the bar, and their opposites, made by big's own hand.
func numbers() []*big.Rat {
	out := []*big.Rat{new(big.Rat)}
	all := sizes()
	for i, num := range all {
		dens := []*big.Int{big.NewInt(1), all[(i+1)%len(all)], all[(3*i+5)%len(all)], all[(7*i+11)%len(all)]}
		for _, den := range dens {
			r := new(big.Rat).SetFrac(num, den)
			out = append(out, r, new(big.Rat).Neg(r))
		}
	}
	return out
}

// give: the Rat of x, by Make.
func give(t *testing.T, x *big.Rat) Rat {
	t.Helper()
	r, ok := Make(x.Sign() < 0, limbs(x.Num()), limbs(x.Denom()))
	if !ok {
		t.Fatalf("Make of %v", x)
	}
	return r
}

func gives(t *testing.T, xs []*big.Rat) []Rat {
	t.Helper()
	var out []Rat
	for _, x := range xs {
		out = append(out, give(t, x))
	}
	return out
}

// is: has r the parts that x has, in lowest terms and without noughts at the end?
func is(r Rat, x *big.Rat) bool {
	neg, num, den := Parts(r)
	return neg == (x.Sign() < 0) && slices.Equal(num, limbs(x.Num())) && slices.Equal(den, limbs(x.Denom()))
}

// text: a Rat as it is told when it is wrong.
func text(r Rat) string {
	neg, num, den := Parts(r)
	sign := ""
	if neg {
		sign = "-"
	}
	return sign + toBig(num).String() + "/" + toBig(den).String()
}

func frac(t *testing.T, n, d int) Rat {
	t.Helper()
	r, ok := Frac(n, d)
	if !ok {
		t.Fatalf("Frac(%d, %d)", n, d)
	}
	return r
}

var ints = []int{
	0, 1, -1, 2, -2, 3, 4, -6, 10, 12, -1000, math.MaxInt32, math.MinInt32, math.MaxUint32, math.MaxUint32 + 1, -math.MaxUint32 - 1,
	math.MaxInt - 1, math.MaxInt, math.MinInt, math.MinInt + 1, math.MinInt + 2, 1 << 62, -1 << 62,
}

func TestMake(t *testing.T) {
	lists := [][]uint32{
		nil, {}, {0}, {0, 0, 0}, {1}, {1, 0}, {6}, {4, 0, 0}, {5}, {0, 1}, {0, 6, 0}, {top, top}, {top, top, 0}, {0, 0, 1}, {0, 0, 6, 0, 0},
		noise(5, 1), append(noise(5, 1), 0, 0), noise(7, 2),
	}
	for _, num := range lists {
		for _, den := range lists {
			for _, neg := range []bool{false, true} {
				r, ok := Make(neg, num, den)
				x := new(big.Rat)
				if toBig(den).Sign() != 0 {
					x.SetFrac(toBig(num), toBig(den))
				}
				if neg {
					x.Neg(x)
				}
				if ok != (toBig(den).Sign() != 0) || !is(r, x) {
					t.Errorf("Make(%v, %v, %v) = %s, %v, not %v", neg, num, den, text(r), ok, x)
				}
			}
		}
	}
	if r, ok := Make(true, []uint32{0}, []uint32{5}); !ok || !is(r, new(big.Rat)) {
		t.Errorf("Make(true, (0), (5)) = %s, %v", text(r), ok)
	}
	if r, ok := Make(false, []uint32{1}, []uint32{0, 0}); ok || r != (Rat{}) {
		t.Errorf("Make(false, (1), (0, 0)) = %s, %v", text(r), ok)
	}
}

func TestInt(t *testing.T) {
	for _, n := range ints {
		if r := Int(n); !is(r, new(big.Rat).SetInt64(int64(n))) {
			t.Errorf("Int(%d) = %s", n, text(r))
		}
	}
}

func TestFrac(t *testing.T) {
	for _, n := range ints {
		for _, d := range ints {
			r, ok := Frac(n, d)
			x := new(big.Rat)
			if d != 0 {
				x.SetFrac(big.NewInt(int64(n)), big.NewInt(int64(d)))
			}
			if ok != (d != 0) || !is(r, x) {
				t.Errorf("Frac(%d, %d) = %s, %v", n, d, text(r), ok)
			}
		}
	}
	if neg, num, den := Parts(frac(t, -6, 4)); !neg || !slices.Equal(num, []uint32{3}) || !slices.Equal(den, []uint32{2}) {
		t.Errorf("Parts(Frac(-6, 4)) = %v, %v, %v", neg, num, den)
	}
	if r := frac(t, math.MinInt, -1); !is(r, new(big.Rat).SetInt(new(big.Int).Lsh(big.NewInt(1), 63))) {
		t.Errorf("Frac(least int, -1) = %s", text(r))
	}
}

func TestParts(t *testing.T) {
	for _, x := range numbers() {
		r := give(t, x)
		if !is(r, x) {
			t.Errorf("Parts of %v: %s", x, text(r))
		}
		neg, num, den := Parts(r)
		if again, ok := Make(neg, num, den); !ok || Cmp(again, r) != 0 {
			t.Errorf("Make of the Parts of %v = %s, %v", x, text(again), ok)
		}
	}
	if neg, num, den := Parts(Rat{}); neg || len(num) != 0 || !slices.Equal(den, []uint32{1}) {
		t.Errorf("Parts(0) = %v, %v, %v", neg, num, den)
	}
}

// pack: the bytes of a natural number, the lowest first, as KeyOf tells them.
func pack(x *big.Int) string {
	b := x.Bytes()
	slices.Reverse(b)
	return string(b)
}

func TestKeyOf(t *testing.T) {
	found := map[Key]*big.Rat{}
	for _, x := range numbers() {
		r := give(t, x)
		k := KeyOf(r)
		if k != (Key{x.Sign() < 0, pack(x.Num()), pack(x.Denom())}) {
			t.Errorf("KeyOf(%v) = %+v", x, k)
		}
		if other := found[k]; other != nil && other.Cmp(x) != 0 {
			t.Errorf("%v and %v have one key", x, other)
		}
		found[k] = x
		// The same number by another way has the same key.
		if other := Sub(Add(r, frac(t, 1, 3)), frac(t, 2, 6)); KeyOf(other) != k {
			t.Errorf("%v has two keys, %+v and %+v", x, k, KeyOf(other))
		}
	}
	if k := KeyOf(frac(t, 1, 2)); k != (Key{false, "\x01", "\x02"}) {
		t.Errorf("KeyOf(1/2) = %+v", k)
	}
	if k := KeyOf(Rat{}); k != (Key{false, "", "\x01"}) || k != KeyOf(Neg(Int(0))) {
		t.Errorf("KeyOf(0) = %+v", k)
	}
}

func TestToInt(t *testing.T) {
	for _, n := range ints {
		if got, ok := ToInt(Int(n)); !ok || got != n {
			t.Errorf("ToInt(%d) = %d, %v", n, got, ok)
		}
	}
	for _, x := range numbers() {
		want, fits := 0, x.IsInt() && x.Num().IsInt64()
		if fits {
			want = int(x.Num().Int64())
		}
		if got, ok := ToInt(give(t, x)); ok != fits || got != want {
			t.Errorf("ToInt(%v) = %d, %v", x, got, ok)
		}
	}
	above := frac(t, math.MinInt, -1)
	cases := []struct {
		r    Rat
		want int
		ok   bool
	}{
		{above, 0, false}, {Sub(above, Int(1)), math.MaxInt, true}, {Neg(above), math.MinInt, true}, {Sub(Neg(above), Int(1)), 0, false},
		{Rat{}, 0, true}, {frac(t, 1, 2), 0, false}, {frac(t, -4, 2), -2, true}, {frac(t, 1, math.MinInt), 0, false},
	}
	for _, c := range cases {
		if got, ok := ToInt(c.r); got != c.want || ok != c.ok {
			t.Errorf("ToInt(%s) = %d, %v", text(c.r), got, ok)
		}
	}
}

func TestSignNegAbs(t *testing.T) {
	for _, x := range numbers() {
		r := give(t, x)
		if Sign(r) != x.Sign() {
			t.Errorf("Sign(%v) = %d", x, Sign(r))
		}
		if got := Neg(r); !is(got, new(big.Rat).Neg(x)) || Sign(got) != -x.Sign() {
			t.Errorf("Neg(%v) = %s", x, text(got))
		}
		if got := Abs(r); !is(got, new(big.Rat).Abs(x)) || Sign(got) != x.Sign()*x.Sign() {
			t.Errorf("Abs(%v) = %s", x, text(got))
		}
	}
	if Sign(Rat{}) != 0 || Sign(Neg(Rat{})) != 0 || Sign(Abs(Rat{})) != 0 {
		t.Error("the sign of 0")
	}
}

// TestPairs: every call of two numbers, of each with each.
func TestPairs(t *testing.T) {
	xs := numbers()
	rs := gives(t, xs)
	for i, x := range xs {
		for j, y := range xs {
			a, b := rs[i], rs[j]
			checkPair(t, a, b, x, y)
		}
	}
}

func checkPair(t *testing.T, a, b Rat, x, y *big.Rat) {
	t.Helper()
	if got := Add(a, b); !is(got, new(big.Rat).Add(x, y)) {
		t.Errorf("%v + %v = %s", x, y, text(got))
	}
	if got := Sub(a, b); !is(got, new(big.Rat).Sub(x, y)) {
		t.Errorf("%v - %v = %s", x, y, text(got))
	}
	if got := Mul(a, b); !is(got, new(big.Rat).Mul(x, y)) {
		t.Errorf("%v * %v = %s", x, y, text(got))
	}
	want := new(big.Rat)
	if y.Sign() != 0 {
		want.Quo(x, y)
	}
	if got, ok := Div(a, b); ok != (y.Sign() != 0) || !is(got, want) {
		t.Errorf("%v / %v = %s, %v", x, y, text(got), ok)
	}
	order := x.Cmp(y)
	if got := Cmp(a, b); got != order {
		t.Errorf("Cmp(%v, %v) = %d", x, y, got)
	}
	least, most := x, y
	if order > 0 {
		least, most = y, x
	}
	if got := Min(a, b); !is(got, least) {
		t.Errorf("Min(%v, %v) = %s", x, y, text(got))
	}
	if got := Max(a, b); !is(got, most) {
		t.Errorf("Max(%v, %v) = %s", x, y, text(got))
	}
}

// TestAboutAWord: sums, products and quotients that just fit in words and that just don't, there and back.
func TestAboutAWord(t *testing.T) {
	var xs []*big.Rat
	word := new(big.Int).Lsh(big.NewInt(1), 64)
	half := new(big.Int).Lsh(big.NewInt(1), 32)
	for _, p := range []*big.Int{word, half} {
		for d := int64(-3); d <= 3; d++ {
			near := new(big.Int).Add(p, big.NewInt(d))
			xs = append(xs, new(big.Rat).SetInt(near), new(big.Rat).SetFrac(big.NewInt(1), near))
			xs = append(xs, new(big.Rat).SetFrac(near, big.NewInt(3)), new(big.Rat).SetFrac(big.NewInt(-2), near))
			xs = append(xs, new(big.Rat).SetFrac(near, new(big.Int).Sub(p, big.NewInt(5))))
		}
	}
	for n := int64(-4); n <= 4; n++ {
		xs = append(xs, new(big.Rat).SetInt64(n), new(big.Rat).SetFrac64(n, 3))
	}
	rs := gives(t, xs)
	for i, x := range xs {
		for j, y := range xs {
			checkPair(t, rs[i], rs[j], x, y)
			if back := Sub(Add(rs[i], rs[j]), rs[j]); !is(back, x) || !reflect.DeepEqual(back, rs[i]) {
				t.Errorf("%v + %v - %v = %s", x, y, y, text(back))
			}
		}
	}
}

// TestSmallNumbers: all fractions of small numbers, written in any way, with each other.
func TestSmallNumbers(t *testing.T) {
	var xs []*big.Rat
	var rs []Rat
	for n := -7; n <= 7; n++ {
		for d := -6; d <= 6; d++ {
			if d != 0 {
				xs, rs = append(xs, big.NewRat(int64(n), int64(d))), append(rs, frac(t, n, d))
			}
		}
	}
	for i, x := range xs {
		for j, y := range xs {
			checkPair(t, rs[i], rs[j], x, y)
		}
	}
	if got := Add(frac(t, 1, 2), frac(t, 1, 3)); Cmp(got, frac(t, 5, 6)) != 0 {
		t.Errorf("1/2 + 1/3 = %s", text(got))
	}
}

func TestInv(t *testing.T) {
	for _, x := range numbers() {
		got, ok := Inv(give(t, x))
		want := new(big.Rat)
		if x.Sign() != 0 {
			want.Inv(x)
		}
		if ok != (x.Sign() != 0) || !is(got, want) {
			t.Errorf("Inv(%v) = %s, %v", x, text(got), ok)
		}
	}
	for _, nought := range []Rat{{}, Int(0), Neg(Rat{}), frac(t, 0, -5), Sub(frac(t, 1, 7), frac(t, 1, 7))} {
		if got, ok := Inv(nought); ok || got != (Rat{}) {
			t.Errorf("Inv(0) = %s, %v", text(got), ok)
		}
		if got, ok := Div(Int(1), nought); ok || got != (Rat{}) {
			t.Errorf("Div(1, 0) = %s, %v", text(got), ok)
		}
		if got, ok := Div(nought, nought); ok || got != (Rat{}) {
			t.Errorf("Div(0, 0) = %s, %v", text(got), ok)
		}
		if got, ok := Div(nought, Int(-3)); !ok || !is(got, new(big.Rat)) {
			t.Errorf("Div(0, -3) = %s, %v", text(got), ok)
		}
	}
}

// floor: the greatest whole number that is at most x; big's Div rounds so, if what it divides by is above 0.
func floor(x *big.Rat) *big.Rat {
	return new(big.Rat).SetInt(new(big.Int).Div(x.Num(), x.Denom()))
}

func TestWholeAndFloor(t *testing.T) {
	for _, x := range numbers() {
		r := give(t, x)
		if Whole(r) != x.IsInt() {
			t.Errorf("Whole(%v) = %v", x, Whole(r))
		}
		if got := Floor(r); !is(got, floor(x)) || !Whole(got) {
			t.Errorf("Floor(%v) = %s", x, text(got))
		}
	}
	for n := -30; n <= 30; n++ {
		for d := 1; d <= 9; d++ {
			x := big.NewRat(int64(n), int64(d))
			if r := frac(t, n, d); !is(Floor(r), floor(x)) || Whole(r) != (n%d == 0) {
				t.Errorf("Floor(%v) = %s, Whole %v", x, text(Floor(r)), Whole(r))
			}
		}
	}
	if got := Floor(frac(t, -1, 2)); Cmp(got, Int(-1)) != 0 {
		t.Errorf("Floor(-1/2) = %s", text(got))
	}
	if !Whole(Rat{}) || Sign(Floor(Rat{})) != 0 {
		t.Error("0 is whole")
	}
}

// TestZeroValue: Rat{} is 0 in every call.
func TestZeroValue(t *testing.T) {
	for _, x := range numbers() {
		r := give(t, x)
		checkPair(t, Rat{}, r, new(big.Rat), x)
		checkPair(t, r, Rat{}, x, new(big.Rat))
	}
	checkPair(t, Rat{}, Rat{}, new(big.Rat), new(big.Rat))
	noughts := []Rat{{}, Int(0), Neg(Rat{}), Abs(Rat{}), Floor(Rat{}), frac(t, 0, math.MinInt), Mul(Rat{}, Int(-5)), Add(Int(5), Int(-5))}
	for i, r := range noughts {
		if r != (Rat{}) || Cmp(r, Rat{}) != 0 || !is(r, new(big.Rat)) {
			t.Errorf("nought number %d: %s", i, text(r))
		}
	}
	if n, ok := ToInt(Rat{}); n != 0 || !ok {
		t.Errorf("ToInt(0) = %d, %v", n, ok)
	}
}

func TestSum(t *testing.T) {
	if got := Sum(nil); got != (Rat{}) {
		t.Errorf("Sum() = %s", text(got))
	}
	if got := Sum([]Rat{}); got != (Rat{}) {
		t.Errorf("Sum() = %s", text(got))
	}
	want := new(big.Rat)
	var list []Rat
	for _, x := range numbers() {
		want.Add(want, x)
		list = append(list, give(t, x))
		if got := Sum(list); !is(got, want) {
			t.Errorf("the sum of %d numbers = %s, not %v", len(list), text(got), want)
		}
	}
	// They end with a number and its opposite each, so all of them together are 0.
	if got := Sum(list); got != (Rat{}) {
		t.Errorf("the sum of all = %s", text(got))
	}
	thirds := slices.Repeat([]Rat{frac(t, 1, 3)}, 300)
	if got := Sum(append(thirds, make([]Rat, 5)...)); Cmp(got, Int(100)) != 0 {
		t.Errorf("300 thirds = %s", text(got))
	}
}

// TestOneForm: a number is held in one way, however it was come by.
func TestOneForm(t *testing.T) {
	third, long := frac(t, 1, 3), give(t, new(big.Rat).SetFrac(toBig(noise(6, 3)), toBig(noise(5, 4))))
	for _, x := range numbers() {
		r := give(t, x)
		ways := []Rat{Neg(Neg(r)), Sub(Add(r, third), third), Sub(Add(r, long), long), Add(r, Rat{}), Mul(r, Int(1)), Max(r, r), Min(r, r)}
		for _, by := range []Rat{third, long, Int(-7)} {
			q, _ := Div(Mul(r, by), by)
			ways = append(ways, q)
		}
		if once, ok := Inv(r); ok {
			twice, _ := Inv(once)
			ways = append(ways, twice)
		}
		for i, way := range ways {
			if !reflect.DeepEqual(way, r) || KeyOf(way) != KeyOf(r) || Cmp(way, r) != 0 {
				t.Errorf("%v by way %d: %s", x, i, text(way))
			}
		}
	}
}

// roomy: a list with room behind it that is filled, so that a write there shows.
func roomy[E any](list []E, fill E) []E {
	return slices.Clip(slices.Concat(list, slices.Repeat([]E{fill}, 9)))[:len(list)]
}

func whole[E any](list []E) []E {
	return list[:cap(list)]
}

func scribble(list []uint32) {
	list = whole(list)
	for i := range list {
		list[i] = 99
	}
}

func TestListsOfMakeStay(t *testing.T) {
	for _, x := range numbers() {
		num, den := roomy(append(limbs(x.Num()), 0), 0x55), roomy(append(limbs(x.Denom()), 0, 0), 0x66)
		beforeNum, beforeDen := slices.Clone(whole(num)), slices.Clone(whole(den))
		r, _ := Make(x.Sign() < 0, num, den)
		if !slices.Equal(whole(num), beforeNum) || !slices.Equal(whole(den), beforeDen) {
			t.Errorf("Make of %v changed a list", x)
		}
		scribble(num)
		scribble(den)
		if !is(r, x) {
			t.Errorf("%v changed with the lists that it was made of: %s", x, text(r))
		}
	}
}

func TestPartsAreNew(t *testing.T) {
	for _, x := range numbers() {
		r := give(t, x)
		_, num, den := Parts(r)
		_, num2, den2 := Parts(r)
		scribble(num)
		if !slices.Equal(den, limbs(x.Denom())) {
			t.Errorf("the two Parts of %v share memory", x)
		}
		scribble(den)
		if !is(r, x) || !slices.Equal(num2, limbs(x.Num())) || !slices.Equal(den2, limbs(x.Denom())) {
			t.Errorf("%v changed with its Parts", x)
		}
	}
}

// TestNumbersStay: no call changes a number that it is handed, and what is done to the Parts of its answer changes none.
func TestNumbersStay(t *testing.T) {
	xs := numbers()
	rs := gives(t, xs)
	for i, a := range rs {
		b := rs[(i*5+3)%len(rs)]
		q, _ := Div(a, b)
		inv, _ := Inv(a)
		ToInt(a)
		answers := []Rat{Add(a, b), Sub(a, b), Mul(a, b), q, inv, Neg(a), Abs(a), Min(a, b), Max(a, b), Floor(a), Sum([]Rat{a, b})}
		for _, r := range answers {
			_, num, den := Parts(r)
			scribble(num)
			scribble(den)
		}
	}
	for i, r := range rs {
		if !is(r, xs[i]) {
			t.Errorf("%v was changed to %s", xs[i], text(r))
		}
	}
}

func TestListOfSumStays(t *testing.T) {
	xs := numbers()
	list := roomy(gives(t, xs), Int(77))
	first := Sum(list)
	if again := Sum(list); Cmp(first, again) != 0 {
		t.Errorf("Sum is %s and %s", text(first), text(again))
	}
	for i, r := range whole(list) {
		if i < len(xs) && !is(r, xs[i]) || i >= len(xs) && Cmp(r, Int(77)) != 0 {
			t.Errorf("Sum changed number %d to %s", i, text(r))
		}
	}
}

// TestLongNumbers: numbers beyond every limit of the layers below are taken.
func TestLongNumbers(t *testing.T) {
	long := append(make([]uint32, 3300), 5)
	third, ok := Make(true, long, []uint32{3})
	if !ok || Whole(third) || Sign(third) != -1 || limb.Bits(long) < 100000 {
		t.Fatal("a number of more bits than a shift moves")
	}
	if got := Mul(third, Int(-3)); !Whole(got) || !is(got, new(big.Rat).SetInt(toBig(long))) {
		t.Error("its third, taken three times")
	}
	if got, ok := Div(third, third); !ok || Cmp(got, Int(1)) != 0 {
		t.Error("divided by itself")
	}
	if got := Floor(third); !is(got, floor(new(big.Rat).SetFrac(new(big.Int).Neg(toBig(long)), big.NewInt(3)))) {
		t.Error("Floor")
	}
	if _, ok := ToInt(third); ok || len(KeyOf(third).Num) != 4*3300+1 {
		t.Error("its key, or as an int")
	}
}
