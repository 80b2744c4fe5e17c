package delta

import (
	"math"
	"math/big"
	"slices"
	"testing"

	"attest/api"
	"attest/rat"
)

// limbs: the size of a number as layer 2 writes it.
func limbs(x *big.Int) []uint32 {
	var out []uint32
	x = new(big.Int).Abs(x)
	for x.Sign() > 0 {
		out = append(out, uint32(x.Uint64()&math.MaxUint32))
		x.Rsh(x, 32)
	}
	return out
}

func give(x *big.Rat) rat.Rat {
	r, _ := rat.Make(x.Sign() < 0, limbs(x.Num()), limbs(x.Denom()))
	return r
}

// value: the number of a Rat, for big to work with.
func value(r rat.Rat) *big.Rat {
	neg, num, den := rat.Parts(r)
	x := new(big.Rat).SetFrac(whole(num), whole(den))
	if neg {
		x.Neg(x)
	}
	return x
}

func whole(a []uint32) *big.Int {
	sum := new(big.Int)
	for i := len(a) - 1; i >= 0; i-- {
		sum.Or(sum.Lsh(sum, 32), big.NewInt(int64(a[i])))
	}
	return sum
}

func is(r rat.Rat, x *big.Rat) bool {
	return value(r).Cmp(x) == 0
}

// pair: a number as big holds it.
type pair struct {
	a, b *big.Rat
}

func (p pair) give() D {
	return D{give(p.a), give(p.b)}
}

func (p pair) is(d D) bool {
	return is(d.A, p.a) && is(d.B, p.b)
}

// at: what the number is for that e.
func (p pair) at(e *big.Rat) *big.Rat {
	sum := new(big.Rat).Mul(p.b, e)
	return sum.Add(sum, p.a)
}

func text(d D) string {
	return "{" + value(d.A).RatString() + ", " + value(d.B).RatString() + "}"
}

// rationals: 0, small ones, those at the edges of ints and words, and long ones.
func rationals() []*big.Rat {
	out := []*big.Rat{new(big.Rat)}
	long := new(big.Int).Lsh(big.NewInt(1), 200)
	for _, x := range []*big.Rat{
		big.NewRat(1, 1), big.NewRat(1, 2), big.NewRat(2, 3), big.NewRat(5, 1), big.NewRat(math.MaxInt, 1), big.NewRat(1, math.MaxInt),
		new(big.Rat).SetInt(long), new(big.Rat).SetFrac(new(big.Int).Add(long, big.NewInt(1)), long),
	} {
		out = append(out, x, new(big.Rat).Neg(x))
	}
	return out
}

// pairs: each with each of the rationals.
func pairs() []pair {
	var out []pair
	for _, a := range rationals() {
		for _, b := range rationals() {
			out = append(out, pair{a, b})
		}
	}
	return out
}

func ints(a, b int) D {
	return D{rat.Int(a), rat.Int(b)}
}

func frac(n, d int) rat.Rat {
	r, _ := rat.Frac(n, d)
	return r
}

func TestOf(t *testing.T) {
	for _, x := range rationals() {
		if d := Of(give(x)); !(pair{x, new(big.Rat)}).is(d) {
			t.Errorf("Of(%v) = %s", x, text(d))
		}
	}
	if d := Of(rat.Rat{}); d != (D{}) {
		t.Errorf("Of(0) = %s", text(d))
	}
}

func TestCmp(t *testing.T) {
	cases := []struct {
		a, b D
		want int
	}{
		{ints(1, -1), ints(1, 0), -1}, {ints(1, 0), ints(1, -1), 1}, {ints(1, 5), ints(2, -5), -1}, {ints(2, -5), ints(1, 5), 1},
		{ints(1, 2), ints(1, 2), 0}, {ints(-1, 2), ints(-1, 3), -1}, {ints(3, 2), ints(-3, 2), 1}, {D{}, D{}, 0},
		{D{}, ints(0, 1), -1}, {D{}, ints(0, -1), 1}, {D{}, ints(1, -9), -1}, {ints(-1, math.MaxInt), D{}, -1},
		{D{frac(2, 4), frac(-3, 9)}, D{frac(1, 2), frac(1, -3)}, 0},
	}
	for _, c := range cases {
		if got := Cmp(c.a, c.b); got != c.want {
			t.Errorf("Cmp(%s, %s) = %d", text(c.a), text(c.b), got)
		}
	}
}

// TestCmpOfPairs: the order is that of the numbers at an e that is small enough for all of these.
func TestCmpOfPairs(t *testing.T) {
	small := new(big.Rat).SetFrac(big.NewInt(1), new(big.Int).Lsh(big.NewInt(1), 1000))
	all := pairs()
	for _, p := range all {
		for _, q := range all {
			if got := Cmp(p.give(), q.give()); got != p.at(small).Cmp(q.at(small)) {
				t.Errorf("Cmp(%v, %v) = %d", p, q, got)
			}
		}
	}
}

func TestSums(t *testing.T) {
	all := pairs()
	for i, p := range all {
		a := p.give()
		if got := Neg(a); !(pair{new(big.Rat).Neg(p.a), new(big.Rat).Neg(p.b)}).is(got) {
			t.Errorf("Neg(%v) = %s", p, text(got))
		}
		for _, q := range all[i%7:] {
			b := q.give()
			if got := Add(a, b); !(pair{new(big.Rat).Add(p.a, q.a), new(big.Rat).Add(p.b, q.b)}).is(got) {
				t.Errorf("Add(%v, %v) = %s", p, q, text(got))
			}
			if got := Sub(a, b); !(pair{new(big.Rat).Sub(p.a, q.a), new(big.Rat).Sub(p.b, q.b)}).is(got) {
				t.Errorf("Sub(%v, %v) = %s", p, q, text(got))
			}
		}
	}
}

func TestScaleAndAt(t *testing.T) {
	for _, p := range pairs() {
		for _, x := range rationals() {
			d, r := p.give(), give(x)
			if got := Scale(r, d); !(pair{new(big.Rat).Mul(x, p.a), new(big.Rat).Mul(x, p.b)}).is(got) {
				t.Errorf("Scale(%v, %v) = %s", x, p, text(got))
			}
			if got := At(d, r); !is(got, p.at(x)) {
				t.Errorf("At(%v, %v) = %v", p, x, value(got))
			}
		}
	}
	cases := []struct {
		d    D
		e    rat.Rat
		want rat.Rat
	}{
		{ints(1, -2), frac(1, 4), frac(1, 2)}, {ints(1, -2), rat.Rat{}, rat.Int(1)}, {ints(1, -2), rat.Int(-3), rat.Int(7)},
		{ints(0, 5), rat.Int(0), rat.Rat{}}, {D{}, rat.Int(-9), rat.Rat{}}, {D{}, rat.Rat{}, rat.Rat{}},
	}
	for _, c := range cases {
		if got := At(c.d, c.e); rat.Cmp(got, c.want) != 0 {
			t.Errorf("At(%s, %v) = %v", text(c.d), value(c.e), value(got))
		}
	}
}

// TestZeroValue: D{} is 0 in every call.
func TestZeroValue(t *testing.T) {
	for _, p := range pairs() {
		d := p.give()
		if !p.is(Add(d, D{})) || !p.is(Add(D{}, d)) || !p.is(Sub(d, D{})) || !p.is(Neg(Sub(D{}, d))) {
			t.Errorf("%v with 0", p)
		}
		if Cmp(Scale(rat.Rat{}, d), D{}) != 0 || Cmp(Scale(d.A, D{}), D{}) != 0 || rat.Sign(At(D{}, d.B)) != 0 {
			t.Errorf("products of %v and 0", p)
		}
	}
	if Neg(D{}) != (D{}) || Add(D{}, D{}) != (D{}) || Sub(D{}, D{}) != (D{}) || Cmp(D{}, Of(rat.Int(0))) != 0 {
		t.Error("0 with 0")
	}
	if r, e := Choose(make([]D, 3), make([]D, 3)); e != api.OK || rat.Cmp(r, rat.Int(1)) != 0 {
		t.Errorf("Choose of noughts = %v, %d", value(r), e)
	}
}

func TestChoose(t *testing.T) {
	half, third := D{frac(1, 2), rat.Rat{}}, frac(1, 3)
	between := new(big.Int).Sub(new(big.Int).Lsh(big.NewInt(1), 64), big.NewInt(1)) // both ends of int's range
	justBelow, justAbove := frac(999999, 1000000), frac(1000001, 1000000)
	cases := []struct {
		name      string
		low, high []D
		want      rat.Rat
	}{
		{"none", nil, nil, rat.Int(1)},
		{"none and empty", nil, []D{}, rat.Int(1)},
		{"example", []D{ints(0, 1)}, []D{ints(1, -1)}, frac(1, 2)},
		{"ever farther apart", []D{ints(0, 0)}, []D{ints(1, 1)}, rat.Int(1)},
		{"side by side", []D{ints(0, 7)}, []D{ints(1, 7)}, rat.Int(1)},
		{"equal", []D{ints(3, -2)}, []D{ints(3, -2)}, rat.Int(1)},
		{"equal As", []D{ints(3, -2)}, []D{ints(3, 5)}, rat.Int(1)},
		{"binding at 1", []D{ints(0, 1)}, []D{ints(1, 0)}, rat.Int(1)},
		{"binding just below 1", []D{ints(0, 1)}, []D{{justBelow, rat.Rat{}}}, justBelow},
		{"binding just above 1", []D{ints(0, 1)}, []D{{justAbove, rat.Rat{}}}, rat.Int(1)},
		{"the least first", []D{ints(0, 3), ints(0, 1), ints(-5, 0)}, []D{ints(1, 0), half, ints(5, 0)}, third},
		{"the least last", []D{ints(-5, 0), ints(0, 1), ints(0, 3)}, []D{ints(5, 0), half, ints(1, 0)}, third},
		{"the least between", []D{ints(0, 1), ints(0, 3), ints(4, 4)}, []D{half, ints(1, 0), ints(4, 4)}, third},
		{"below 0", []D{ints(-3, 2)}, []D{ints(-2, -2)}, frac(1, 4)},
		{"great Bs", []D{ints(0, math.MaxInt)}, []D{ints(1, math.MinInt)}, give(new(big.Rat).SetFrac(big.NewInt(1), between))},
	}
	for _, c := range cases {
		if got, e := Choose(c.low, c.high); e != api.OK || rat.Cmp(got, c.want) != 0 {
			t.Errorf("%s: Choose = %v, %d, not %v", c.name, value(got), e, value(c.want))
		}
	}
}

func TestChooseRefuses(t *testing.T) {
	fine := ints(0, 0)
	cases := []struct {
		name      string
		low, high []D
	}{
		{"example", []D{ints(0, 3)}, []D{ints(0, 2)}},
		{"one list empty", []D{fine}, nil},
		{"the other one empty", nil, []D{fine}},
		{"a longer one", []D{fine, fine}, []D{fine}},
		{"a shorter one", []D{fine}, []D{fine, fine}},
		{"out of order by A", []D{ints(2, -9)}, []D{ints(1, 9)}},
		{"out of order by A alone", []D{ints(2, 4)}, []D{ints(1, 4)}},
		{"out of order by a little B", []D{{rat.Int(5), frac(1, 1000000)}}, []D{Of(rat.Int(5))}},
		{"the last is out of order", []D{ints(0, 1), fine, ints(1, 1)}, []D{ints(1, 0), fine, ints(1, 0)}},
		{"the first is out of order", []D{ints(1, 1), fine}, []D{ints(1, 0), ints(7, 7)}},
	}
	for _, c := range cases {
		if got, e := Choose(c.low, c.high); e != api.ErrForm || got != (rat.Rat{}) {
			t.Errorf("%s: Choose = %v, %d", c.name, value(got), e)
		}
	}
}

// TestChooseOfPairs: every list of one or two pairs is judged by what Choose says of itself: two lines that are in order
// at 0 and at the answer are so in between, and two that touch there and are out of order farther on are so from there on.
func TestChooseOfPairs(t *testing.T) {
	all := pairs()
	for i, p := range all {
		for j, q := range all {
			r, s := all[(i*31+j)%len(all)], all[(i+j*17+5)%len(all)]
			checkChoice(t, []pair{p}, []pair{q})
			checkChoice(t, []pair{p, r}, []pair{q, s})
		}
	}
}

func checkChoice(t *testing.T, low, high []pair) {
	t.Helper()
	var lows, highs []D
	inOrder := true
	for i := range low {
		lows, highs = append(lows, low[i].give()), append(highs, high[i].give())
		order := low[i].a.Cmp(high[i].a)
		inOrder = inOrder && (order < 0 || order == 0 && low[i].b.Cmp(high[i].b) <= 0)
	}
	got, e := Choose(lows, highs)
	if !inOrder {
		if e != api.ErrForm || got != (rat.Rat{}) {
			t.Errorf("Choose(%v, %v) = %v, %d", low, high, value(got), e)
		}
		return
	}
	d, one := value(got), big.NewRat(1, 1)
	farther := new(big.Rat).Add(d, one)
	holds, ends := true, d.Cmp(one) == 0
	for i := range low {
		there := low[i].at(d).Cmp(high[i].at(d))
		holds = holds && there <= 0
		ends = ends || there == 0 && low[i].at(farther).Cmp(high[i].at(farther)) > 0
	}
	if e != api.OK || d.Sign() <= 0 || d.Cmp(one) > 0 || !holds || !ends {
		t.Errorf("Choose(%v, %v) = %v, %d", low, high, d, e)
	}
}

// TestListsStay: what Choose is handed stays as it was, with the room behind it, and it answers the same again.
func TestListsStay(t *testing.T) {
	mark := ints(77, -77)
	room := func(list ...D) []D { return slices.Concat(list, []D{mark, mark, mark})[: len(list) : len(list)+3] }
	low, high := room(ints(0, 3), ints(5, 1), D{}), room(ints(1, 0), ints(5, 1), ints(9, -9))
	bad := room(ints(1, 0), ints(5, 1), ints(0, -9))
	lists := [][]D{low, high, bad}
	var before [][]D
	for _, l := range lists {
		before = append(before, slices.Clone(l[:cap(l)]))
	}
	first, _ := Choose(low, high)
	Choose(low, bad)
	Choose(low, bad[:2])
	again, e := Choose(low, high)
	if e != api.OK || rat.Cmp(first, again) != 0 || rat.Cmp(first, frac(1, 3)) != 0 {
		t.Errorf("Choose = %v, then %v, %d", value(first), value(again), e)
	}
	for i, l := range lists {
		for j, d := range l[:cap(l)] {
			if Cmp(d, before[i][j]) != 0 {
				t.Errorf("place %d of list %d is now %s", j, i, text(d))
			}
		}
	}
}

// TestNumbersStay: no call changes the numbers that it is handed.
func TestNumbersStay(t *testing.T) {
	all := pairs()
	var given []D
	for _, p := range all {
		given = append(given, p.give())
	}
	for i, d := range given {
		other := given[(i*13+1)%len(given)]
		Cmp(d, other)
		Choose([]D{d}, []D{other})
		for _, answer := range []D{Add(d, other), Sub(d, other), Neg(d), Scale(other.A, d), Of(d.A), Of(At(d, other.B))} {
			_, num, den := rat.Parts(answer.A)
			clear(num)
			clear(den)
		}
	}
	for i, d := range given {
		if !all[i].is(d) {
			t.Errorf("%v is now %s", all[i], text(d))
		}
	}
}
