package atom

import (
	"maps"
	"math"
	"math/big"
	"slices"
	"strconv"
	"testing"

	"attest/api"
	"attest/lin"
	"attest/rat"
)

// limbs: the size of a number as layer 2 writes it.
func limbs(x *big.Int) []uint32 {
	var out []uint32
	x = new(big.Int).Abs(x)
	for x.Sign() > 0 {
		out = append(out, uint32(x.Uint64()&math.MaxUint32))
		x.Rsh(x, 32)
	}
	return out
}

func natural(a []uint32) *big.Int {
	sum := new(big.Int)
	for i := len(a) - 1; i >= 0; i-- {
		sum.Or(sum.Lsh(sum, 32), big.NewInt(int64(a[i])))
	}
	return sum
}

func give(x *big.Rat) rat.Rat {
	r, _ := rat.Make(x.Sign() < 0, limbs(x.Num()), limbs(x.Denom()))
	return r
}

// value: the number of a Rat, for big to work with.
func value(r rat.Rat) *big.Rat {
	neg, num, den := rat.Parts(r)
	x := new(big.Rat).SetFrac(natural(num), natural(den))
	if neg {
		x.Neg(x)
	}
	return x
}

func frac(n, d int) rat.Rat {
	r, _ := rat.Frac(n, d)
	return r
}

// with: a constraint of an Op and a constant, and of variables and coefficients by turns.
func with(op, rest int, terms ...int) Atom {
	out := Atom{Op: op, E: lin.Expr{Const: rat.Int(rest)}}
	for i := 0; i < len(terms); i += 2 {
		out.E.Terms = append(out.E.Terms, lin.Term{Var: terms[i], Coef: rat.Int(terms[i+1])})
	}
	return out
}

// show: a constraint as a test tells it.
func show(a Atom) string {
	out := ""
	for _, t := range a.E.Terms {
		out += value(t.Coef).RatString() + "*v" + strconv.Itoa(t.Var) + " + "
	}
	return out + value(a.E.Const).RatString() + " op " + strconv.Itoa(a.Op)
}

// sum is what an expression stands for, worked out apart from it: its variables whose coefficients aren't 0, rising, the
// coefficients, and the constant.
type sum struct {
	vars  []int
	coefs []*big.Rat
	rest  *big.Rat
}

func meant(e lin.Expr) sum {
	coefs := map[int]*big.Rat{}
	for _, t := range e.Terms {
		if coefs[t.Var] == nil {
			coefs[t.Var] = new(big.Rat)
		}
		coefs[t.Var].Add(coefs[t.Var], value(t.Coef))
	}
	maps.DeleteFunc(coefs, func(_ int, c *big.Rat) bool { return c.Sign() == 0 })
	out := sum{vars: slices.Sorted(maps.Keys(coefs)), rest: value(e.Const)}
	for _, v := range out.vars {
		out.coefs = append(out.coefs, coefs[v])
	}
	return out
}

// times: all of it times r.
func (s sum) times(r *big.Rat) sum {
	out := sum{vars: s.vars, rest: new(big.Rat).Mul(r, s.rest)}
	for _, c := range s.coefs {
		out.coefs = append(out.coefs, new(big.Rat).Mul(r, c))
	}
	return out
}

func (s sum) equal(o sum) bool {
	return s.rest.Cmp(o.rest) == 0 && slices.Equal(s.vars, o.vars) &&
		slices.EqualFunc(s.coefs, o.coefs, func(a, b *big.Rat) bool { return a.Cmp(b) == 0 })
}

// at: the value at a point; a variable that has no number there is 0.
func (s sum) at(point []rat.Rat) *big.Rat {
	out := new(big.Rat).Set(s.rest)
	for i, v := range s.vars {
		if v >= 0 && v < len(point) {
			out.Add(out, new(big.Rat).Mul(s.coefs[i], value(point[v])))
		}
	}
	return out
}

// form: what a constraint in its one form is, worked out apart from Canon.
type form struct {
	says int
	op   int
	sum  sum
}

func (f form) equal(o form) bool {
	return f.says == o.says && (f.says != Open || f.op == o.op && f.sum.equal(o.sum))
}

func formOf(a Atom) form {
	s := meant(a.E)
	if len(s.vars) > 0 {
		by := new(big.Rat).Set(s.coefs[0])
		if a.Op != 3 {
			by.Abs(by)
		}
		return form{Open, a.Op, s.times(by.Inv(by))}
	}
	if saysOf(s.rest.Sign(), a.Op) {
		return form{says: True}
	}
	return form{says: False}
}

// saysOf: does a number of that sign keep to the Op?
func saysOf(sign, op int) bool {
	return op == 1 && sign <= 0 || op == 2 && sign < 0 || op == 3 && sign == 0
}

// inForm: is it the sum, with rising variables and no coefficient 0?
func inForm(e lin.Expr, s sum) bool {
	if len(e.Terms) != len(s.vars) || value(e.Const).Cmp(s.rest) != 0 {
		return false
	}
	for i, t := range e.Terms {
		if t.Var != s.vars[i] || value(t.Coef).Cmp(s.coefs[i]) != 0 {
			return false
		}
	}
	return true
}

func sameTerm(a, b lin.Term) bool {
	return a.Var == b.Var && rat.Cmp(a.Coef, b.Coef) == 0
}

// same: are both the same, term for term?
func same(a, b Atom) bool {
	return a.Op == b.Op && rat.Cmp(a.E.Const, b.E.Const) == 0 && slices.EqualFunc(a.E.Terms, b.E.Terms, sameTerm)
}

func isZero(a Atom) bool {
	return a.Op == 0 && len(a.E.Terms) == 0 && a.E.Const == rat.Rat{}
}

// numbers: small ones, those at the edges of ints and words, and long ones.
func numbers() []rat.Rat {
	long := new(big.Int).Lsh(big.NewInt(1), 150)
	above := new(big.Int).Add(long, big.NewInt(1))
	return []rat.Rat{
		rat.Int(-1), {}, rat.Int(1), rat.Int(2), frac(1, 2), frac(-2, 3), rat.Int(math.MaxInt), rat.Int(math.MinInt), frac(1, math.MinInt),
		give(new(big.Rat).SetInt(long)), give(new(big.Rat).SetFrac(above, long)), give(new(big.Rat).SetFrac(long, big.NewInt(-3))),
	}
}

// exprs: expressions with no terms and with terms that cancel, each with constants below 0, 0 and above 0; with first
// coefficients below 0; with terms in any order, several times and with coefficient 0; with variables below 0 and at both
// ends of int's range; and some put together at haphazard, the same ones each time.
func exprs() []lin.Expr {
	var out []lin.Expr
	for _, rest := range []int{-3, 0, 3} {
		for _, terms := range [][]int{
			{}, {0, 0}, {0, 5, 0, -5}, {3, 1, -2, 4, 3, -1, -2, -4}, {0, 1}, {0, -1}, {0, 2}, {0, -2}, {1, 2, 0, -4}, {1, -2, 0, 4},
			{0, 1, 0, 1}, {2, 1, 1, 0, 2, -3}, {1, 1, 0, 1, 1, -1}, {1, -1, 0, -1, 1, 1}, {-1, 3}, {-1, -3, 0, 1}, {0, 1, -1, -3},
			{math.MaxInt, 2, math.MinInt, 6}, {math.MaxInt, -2, math.MinInt, -6}, {math.MaxInt, -2}, {math.MinInt, 1, math.MinInt, -1},
			{math.MinInt, 7, math.MaxInt, 7, -1, 7, 0, 7, 1, 7}, {9, 1, 8, 2, 7, 3, 6, 4, 5, 5, 4, 6, 3, 7, 2, 8, 1, 9, 0, 10},
		} {
			out = append(out, with(Le, rest, terms...).E)
		}
	}
	all := numbers()
	vars := []int{0, 1, 2, 3, -1, 400, math.MaxInt, math.MinInt}
	for n := range 40 {
		e := lin.Expr{Const: all[n*5%len(all)]}
		for k := range n % 17 {
			e.Terms = append(e.Terms, lin.Term{Var: vars[(n*k*k+k*3+n)%(1+n%len(vars))], Coef: all[(n*7+k*5+k*k)%len(all)]})
		}
		out = append(out, e)
	}
	return out
}

// atoms: each of those expressions with each Op.
func atoms() []Atom {
	var out []Atom
	for _, e := range exprs() {
		for op := Le; op <= Eq; op++ {
			out = append(out, Atom{e, op})
		}
	}
	return out
}

// wrong: Ops that are none.
var wrong = []int{0, 4, -1, 5, -2, -3, 7, math.MinInt, math.MaxInt}

// points: an empty list, a shorter one than most ask for, longer ones; and, for a constraint on variables that have
// numbers, points at which its expression is 0, a little below and a little above, so that each Op is met and missed.
func points(a Atom) [][]rat.Rat {
	all := numbers()
	out := [][]rat.Rat{nil, {}, {rat.Int(3)}, {rat.Int(-2), frac(1, 3)}, all[:4], all}
	s := meant(a.E)
	for i, v := range s.vars {
		if v < 0 || v > 9 {
			continue
		}
		point := slices.Clone(all[:10])
		point[v] = rat.Rat{}
		root := new(big.Rat).Quo(s.at(point), s.coefs[i])
		root.Neg(root)
		for _, off := range []*big.Rat{new(big.Rat), big.NewRat(1, 1000), big.NewRat(-1, 1000)} {
			there := slices.Clone(point)
			there[v] = give(off.Add(off, root))
			out = append(out, there)
		}
	}
	return out
}

func TestNumbersOfNames(t *testing.T) {
	if Le != 1 || Lt != 2 || Eq != 3 || Open != 0 || True != 1 || False != 2 {
		t.Error("the names' numbers")
	}
}

func TestCheck(t *testing.T) {
	for _, e := range exprs() {
		for op := 1; op <= 3; op++ {
			if got := Check(Atom{e, op}); got != api.OK {
				t.Errorf("Check(%s) = %d", show(Atom{e, op}), got)
			}
		}
		for _, op := range wrong {
			if got := Check(Atom{e, op}); got != api.ErrForm {
				t.Errorf("Check(%s) = %d", show(Atom{e, op}), got)
			}
		}
	}
}

func TestCanon(t *testing.T) {
	for _, a := range atoms() {
		got, says, e := Canon(a)
		want := formOf(a)
		if e != api.OK || says != want.says {
			t.Errorf("Canon(%s) = %s, %d, %d", show(a), show(got), says, e)
			continue
		}
		if says != Open {
			if !isZero(got) {
				t.Errorf("Canon(%s) answers %s beside %d", show(a), show(got), says)
			}
			continue
		}
		if got.Op != a.Op || !inForm(got.E, want.sum) {
			t.Errorf("Canon(%s) = %s", show(a), show(got))
		}
		if again, says, e := Canon(got); !same(again, got) || says != Open || e != api.OK {
			t.Errorf("Canon of %s = %s, %d, %d", show(got), show(again), says, e)
		}
	}
}

// TestCanonHoldsWhereItDid: at each point the canonical constraint, or what is said of one without variables, is as before.
func TestCanonHoldsWhereItDid(t *testing.T) {
	met, missed := 0, 0
	for _, a := range atoms() {
		c, says, _ := Canon(a)
		for _, at := range points(a) {
			before, _ := Holds(a, at)
			after := says == True
			if says == Open {
				after, _ = Holds(c, at)
			}
			if before != after {
				t.Errorf("%s holds: %v, its canonical form: %v", show(a), before, after)
			}
			if after {
				met++
			} else {
				missed++
			}
		}
	}
	if met < 200 || missed < 200 {
		t.Errorf("the points are too much alike: %d hold, %d don't", met, missed)
	}
}

// TestCanonOfConstants: no terms or none that are left, each Op, a constant below 0, 0 and above 0.
func TestCanonOfConstants(t *testing.T) {
	says := map[int][3]int{Le: {True, True, False}, Lt: {True, False, False}, Eq: {False, True, False}}
	little := frac(1, math.MaxInt)
	for op, wanted := range says {
		for i, rest := range []rat.Rat{rat.Neg(little), {}, little} {
			for _, terms := range [][]int{{}, {0, 0}, {0, 1, 0, -1}, {-1, 2, 5, 1, -1, -2, 5, -1}} {
				a := with(op, 0, terms...)
				a.E.Const = rest
				got, s, e := Canon(a)
				if !isZero(got) || s != wanted[i] || e != api.OK {
					t.Errorf("Canon(%s) = %s, %d, %d", show(a), show(got), s, e)
				}
			}
		}
	}
}

func TestCanonOfFirstCoefficients(t *testing.T) {
	cases := []struct{ a, want Atom }{
		{with(Le, 4, 0, -2), with(Le, 2, 0, -1)}, {with(Lt, 4, 0, -2), with(Lt, 2, 0, -1)}, {with(Eq, 4, 0, -2), with(Eq, -2, 0, 1)},
		{with(Le, 4, 0, 2), with(Le, 2, 0, 1)}, {with(Lt, 4, 0, 2), with(Lt, 2, 0, 1)}, {with(Eq, 4, 0, 2), with(Eq, 2, 0, 1)},
		{with(Le, 6, 1, 4, 0, -2), with(Le, 3, 0, -1, 1, 2)}, {with(Eq, 6, 1, 4, 0, -2), with(Eq, -3, 0, 1, 1, -2)},
		{with(Lt, 6, 1, -4, -7, -2), with(Lt, 3, -7, -1, 1, -2)}, {with(Eq, 6, 1, -4, -7, -2), with(Eq, -3, -7, 1, 1, 2)},
		{with(Le, 3, 0, 1, 0, -4), with(Le, 1, 0, -1)}, {with(Eq, 3, 0, 1, 0, -4), with(Eq, -1, 0, 1)},
		{with(Le, 5, 0, 0, 1, -5), with(Le, 1, 1, -1)}, {with(Eq, 0, math.MaxInt, 4, math.MinInt, -2), with(Eq, 0, math.MinInt, 1, math.MaxInt, -2)},
	}
	for _, c := range cases {
		if got, says, e := Canon(c.a); !same(got, c.want) || says != Open || e != api.OK {
			t.Errorf("Canon(%s) = %s, %d, %d", show(c.a), show(got), says, e)
		}
	}
	// 1 + x/3 - 2y = 0 and 1 - x/3 - 2y < 0
	thirds := Atom{lin.Expr{Terms: []lin.Term{{Var: 1, Coef: rat.Int(-2)}, {Var: 0, Coef: frac(1, 3)}}, Const: rat.Int(1)}, Eq}
	if got, _, _ := Canon(thirds); !same(got, with(Eq, 3, 0, 1, 1, -6)) {
		t.Errorf("Canon(%s) = %s", show(thirds), show(got))
	}
	thirds.E.Terms[1].Coef, thirds.Op = frac(-1, 3), Lt
	if got, _, _ := Canon(thirds); !same(got, with(Lt, 3, 0, -1, 1, -6)) {
		t.Errorf("Canon(%s) = %s", show(thirds), show(got))
	}
}

// denials: what Not must answer.
func denials(a Atom) []form {
	s := meant(a.E)
	minus := s.times(big.NewRat(-1, 1))
	switch a.Op {
	case 1:
		return []form{{op: 2, sum: minus}}
	case 2:
		return []form{{op: 1, sum: minus}}
	}
	return []form{{op: 2, sum: s}, {op: 2, sum: minus}}
}

func TestNot(t *testing.T) {
	for _, a := range atoms() {
		got, e := Not(a)
		want := denials(a)
		if e != api.OK || !slices.EqualFunc(got, want, func(n Atom, f form) bool { return n.Op == f.op && inForm(n.E, f.sum) }) {
			t.Errorf("Not(%s), error %d:", show(a), e)
			for _, n := range got {
				t.Errorf("   %s", show(n))
			}
		}
	}
	cases := []struct {
		a    Atom
		want []Atom
	}{
		{with(Le, -1, 0, 1), []Atom{with(Lt, 1, 0, -1)}}, {with(Eq, 0, 0, 1), []Atom{with(Lt, 0, 0, 1), with(Lt, 0, 0, -1)}},
		{with(Lt, 0, 0, 2, 0, -1), []Atom{with(Le, 0, 0, -1)}}, {with(Le, 3), []Atom{with(Lt, -3)}}, {with(Lt, 0), []Atom{with(Le, 0)}},
		{with(Eq, 2, 4, 1, 4, -1), []Atom{with(Lt, 2), with(Lt, -2)}}, {with(Le, 4, 0, -2), []Atom{with(Lt, -4, 0, 2)}},
		{with(Eq, 4, 1, 3, 0, -2), []Atom{with(Lt, 4, 0, -2, 1, 3), with(Lt, -4, 0, 2, 1, -3)}},
	}
	for _, c := range cases {
		if got, e := Not(c.a); e != api.OK || !slices.EqualFunc(got, c.want, same) {
			t.Errorf("Not(%s): %d constraints, error %d", show(c.a), len(got), e)
		}
	}
}

// TestNotHoldsWhereItDoesnt: at each point either the constraint holds, or just one of those that Not answers.
func TestNotHoldsWhereItDoesnt(t *testing.T) {
	seen := map[[2]int]int{}
	for _, a := range atoms() {
		list, _ := Not(a)
		for _, at := range points(a) {
			holds, _ := Holds(a, at)
			others := 0
			for _, n := range list {
				if h, _ := Holds(n, at); h {
					others++
				}
			}
			if holds && others != 0 || !holds && others != 1 {
				t.Errorf("%s holds: %v, and of its opposites %d", show(a), holds, others)
			}
			seen[[2]int{a.Op, others}]++
		}
	}
	for op := Le; op <= Eq; op++ {
		if seen[[2]int{op, 0}] < 50 || seen[[2]int{op, 1}] < 50 {
			t.Errorf("the points are too much alike for Op %d: %v", op, seen)
		}
	}
}

func TestHolds(t *testing.T) {
	for _, a := range atoms() {
		s := meant(a.E)
		for _, at := range points(a) {
			want := saysOf(s.at(at).Sign(), a.Op)
			if got, e := Holds(a, at); got != want || e != api.OK {
				t.Errorf("Holds(%s, %d numbers) = %v, %d", show(a), len(at), got, e)
			}
		}
	}
	three := []rat.Rat{rat.Int(3)}
	cases := []struct {
		a    Atom
		at   []rat.Rat
		want bool
	}{
		{with(Le, -3, 0, 1), three, true}, {with(Lt, -3, 0, 1), three, false}, {with(Eq, -3, 0, 1), three, true},
		{with(Le, -4, 0, 1), three, true}, {with(Lt, -4, 0, 1), three, true}, {with(Eq, -4, 0, 1), three, false},
		{with(Le, -2, 0, 1), three, false}, {with(Lt, -2, 0, 1), three, false}, {with(Eq, -2, 0, 1), three, false},
		{with(Le, 0, 0, 1), nil, true}, {with(Lt, 0, 0, 1), nil, false}, {with(Eq, 0, 0, 1), nil, true}, {with(Eq, 1, 0, 1), nil, false},
		{with(Eq, -3, 0, 1, 1, 9), three, true}, {with(Eq, -3, 0, 1, -1, 9, math.MinInt, 9, math.MaxInt, 9), three, true},
		{with(Lt, -1), three, true}, {with(Lt, 1), nil, false}, {with(Eq, -6, 0, 1, 0, 1), three, true},
	}
	for _, c := range cases {
		if got, e := Holds(c.a, c.at); got != c.want || e != api.OK {
			t.Errorf("Holds(%s, %d numbers) = %v, %d", show(c.a), len(c.at), got, e)
		}
	}
}

// keyOf: the key as the document writes it, worked out apart from KeyOf.
func keyOf(a Atom) Key {
	f := formOf(a)
	if f.says != Open {
		return Key{Op: -f.says}
	}
	terms := ""
	for i, v := range f.sum.vars {
		terms += strconv.Itoa(v) + ":" + f.sum.coefs[i].RatString() + " "
	}
	return Key{a.Op, rat.KeyOf(give(f.sum.rest)), terms}
}

func TestKeyOf(t *testing.T) {
	all := atoms()
	var keys []Key
	var forms []form
	for _, a := range all {
		got, e := KeyOf(a)
		if want := keyOf(a); got != want || e != api.OK {
			t.Errorf("KeyOf(%s) = %#v, %d, not %#v", show(a), got, e, want)
		}
		keys, forms = append(keys, got), append(forms, formOf(a))
	}
	for i := range all {
		for j := range all {
			if (keys[i] == keys[j]) != forms[i].equal(forms[j]) {
				t.Errorf("the keys of %s and %s are equal: %v", show(all[i]), show(all[j]), keys[i] == keys[j])
			}
		}
	}
	cases := []struct {
		a    Atom
		want Key
	}{
		{with(Le, 4, 0, -2), Key{1, rat.KeyOf(rat.Int(2)), "0:-1 "}}, {with(Eq, 0), Key{Op: -1}}, {with(Lt, 1), Key{Op: -2}},
		{with(Eq, 1, 2, 3, 0, -2), Key{3, rat.KeyOf(frac(-1, 2)), "0:1 2:-3/2 "}},
		{with(Lt, 0, math.MinInt, 1, math.MaxInt, 1, -1, 1), Key{2, rat.KeyOf(rat.Rat{}), "-9223372036854775808:1 -1:1 9223372036854775807:1 "}},
		{with(Le, 0, 0, 1, 0, -1), Key{Op: -1}}, {with(Eq, -1), Key{Op: -2}}, {with(Lt, 0, 7, 0), Key{Op: -2}},
	}
	for _, c := range cases {
		if got, e := KeyOf(c.a); got != c.want || e != api.OK {
			t.Errorf("KeyOf(%s) = %#v, %d", show(c.a), got, e)
		}
	}
}

// likes: constraints that say the same as a, in other forms.
func likes(a Atom) []Atom {
	turned := slices.Clone(a.E.Terms)
	slices.Reverse(turned)
	var halves []lin.Term
	for _, t := range a.E.Terms {
		half := lin.Term{Var: t.Var, Coef: rat.Mul(frac(1, 2), t.Coef)}
		halves = append(halves, half, lin.Term{Var: t.Var}, half)
	}
	more := slices.Concat([]lin.Term{{Var: -9, Coef: rat.Int(4)}, {Var: math.MaxInt}}, a.E.Terms, []lin.Term{{Var: -9, Coef: rat.Int(-4)}})
	out := []Atom{{lin.Expr{Terms: turned, Const: a.E.Const}, a.Op}, {lin.Expr{Terms: halves, Const: a.E.Const}, a.Op},
		{lin.Expr{Terms: more, Const: a.E.Const}, a.Op}, {lin.Scale(frac(1, 7), a.E), a.Op}, {lin.Scale(rat.Int(math.MaxInt), a.E), a.Op}}
	if a.Op == Eq {
		out = append(out, Atom{lin.Scale(rat.Int(-1), a.E), Eq}, Atom{lin.Scale(frac(-5, 3), a.E), Eq})
	}
	return out
}

func TestKeysOfTheSame(t *testing.T) {
	for _, a := range atoms() {
		key, _ := KeyOf(a)
		for _, b := range likes(a) {
			if got, e := KeyOf(b); got != key || e != api.OK {
				t.Errorf("KeyOf(%s) = %#v, KeyOf(%s) = %#v, %d", show(a), key, show(b), got, e)
			}
		}
	}
}

// TestKeysOfUnlikeOnes: constraints that differ in the Op, in the constant or in one coefficient alone.
func TestKeysOfUnlikeOnes(t *testing.T) {
	little := frac(1, math.MaxInt)
	list := []Atom{
		with(Le, 1, 0, 1, 1, 2), with(Lt, 1, 0, 1, 1, 2), with(Eq, 1, 0, 1, 1, 2), with(Le, -1, 0, 1, 1, 2), with(Le, 0, 0, 1, 1, 2),
		with(Le, 1, 0, 1, 1, -2), with(Le, 1, 0, 1, 1, 3), with(Le, 1, 0, -1, 1, 2), with(Le, 1, 0, 1), with(Le, 1, 1, 2), with(Le, 1, 0, 1, 2, 2),
		with(Le, 1, 0, 1, -1, 2), with(Le, 1, 0, 1, 12, 1), with(Le, 1, 0, 1, 1, 21), with(Le, 1, 0, 1, 1, 2, 2, 2), {lin.Add(with(Le, 1, 0, 1, 1, 2).E, lin.Of(little)), Le},
		{lin.Add(with(Le, 1, 0, 1, 1, 2).E, lin.Scale(little, lin.Var(1))), Le}, with(Le, 1), with(Le, -1),
		with(Eq, 1, 0, 1, 1, -2), with(Eq, -1, 0, 1, 1, 2), with(Lt, 1, 0, -1, 1, 2),
	}
	seen := map[Key]int{}
	for i, a := range list {
		key, e := KeyOf(a)
		if first, there := seen[key]; there || e != api.OK {
			t.Errorf("%s and %s have one key, or error %d", show(list[first]), show(a), e)
		}
		seen[key] = i
	}
}

// placesOf: what Places must answer, worked out by holding each one against each.
func placesOf(list []Atom) []int {
	var forms []form
	out := make([]int, len(list))
	for i, a := range list {
		if a.Op < 1 || a.Op > 3 {
			forms = append(forms, form{says: -1 - i})
			out[i] = -1
			continue
		}
		forms = append(forms, formOf(a))
		out[i] = slices.IndexFunc(forms, forms[i].equal)
	}
	return out
}

func TestPlaces(t *testing.T) {
	x, twice, below := with(Le, 0, 0, 1), with(Le, 0, 0, 2), with(Lt, 0, 0, 1)
	cases := []struct {
		list []Atom
		want []int
	}{
		{nil, nil}, {[]Atom{}, nil}, {[]Atom{x, twice, below, with(Le, 0), with(Le, 0, 1, 0)}, []int{0, 0, 2, 3, 3}},
		{[]Atom{{}, x, with(4, 0), twice, with(-1, 0, 0, 1), x}, []int{-1, 1, -1, 1, -1, 1}}, {[]Atom{{}, {}}, []int{-1, -1}},
		{[]Atom{with(Lt, 0), with(Eq, 0), with(Le, 5), with(Lt, -1)}, []int{0, 1, 0, 1}},
		{[]Atom{with(Eq, -1, 0, 1), with(Eq, 1, 0, -1), with(Le, -1, 0, 1), with(Le, 1, 0, -1)}, []int{0, 0, 2, 3}},
		{[]Atom{with(0, 0, 0, 1), x, with(0, 0, 0, 1)}, []int{-1, 1, -1}},
	}
	for _, c := range cases {
		if got := Places(c.list); !slices.Equal(got, c.want) {
			t.Errorf("Places = %v, not %v", got, c.want)
		}
	}
	all := atoms()
	var list []Atom
	for i, a := range all {
		list = append(list, a, all[i*7%len(all)], Atom{a.E, wrong[i%len(wrong)]})
		list = append(list, likes(a)...)
	}
	if got := Places(list); !slices.Equal(got, placesOf(list)) {
		t.Errorf("Places of many = %v", got)
	}
	slices.Reverse(list)
	if got := Places(list); !slices.Equal(got, placesOf(list)) {
		t.Errorf("Places of many, turned round = %v", got)
	}
}

// refused: each call that answers an error tells ErrForm, and nothing beside it.
func refused(t *testing.T, a Atom) {
	t.Helper()
	if e := Check(a); e != api.ErrForm {
		t.Errorf("Check(%s) = %d", show(a), e)
	}
	if c, says, e := Canon(a); !isZero(c) || says != 0 || e != api.ErrForm {
		t.Errorf("Canon(%s) = %s, %d, %d", show(a), show(c), says, e)
	}
	if list, e := Not(a); len(list) != 0 || e != api.ErrForm {
		t.Errorf("Not(%s): %d constraints, error %d", show(a), len(list), e)
	}
	for _, at := range points(a) {
		if holds, e := Holds(a, at); holds || e != api.ErrForm {
			t.Errorf("Holds(%s) = %v, %d", show(a), holds, e)
		}
	}
	if key, e := KeyOf(a); key != (Key{}) || e != api.ErrForm {
		t.Errorf("KeyOf(%s) = %#v, %d", show(a), key, e)
	}
	if got := Places([]Atom{a, a}); !slices.Equal(got, []int{-1, -1}) {
		t.Errorf("Places of %s twice = %v", show(a), got)
	}
}

func TestWrongOps(t *testing.T) {
	refused(t, Atom{})
	for _, e := range exprs() {
		for _, op := range wrong {
			refused(t, Atom{e, op})
		}
	}
}

var mark = lin.Term{Var: 55, Coef: rat.Int(-55)}

// roomy: the same constraint, with room behind its terms that is filled, so that a write there shows.
func roomy(a Atom) Atom {
	n := len(a.E.Terms)
	a.E.Terms = slices.Clip(slices.Concat(a.E.Terms, slices.Repeat([]lin.Term{mark}, 5)))[:n]
	return a
}

func untouched(a, as Atom) bool {
	n := len(as.E.Terms)
	for _, t := range a.E.Terms[:cap(a.E.Terms)][n:] {
		if !sameTerm(t, mark) {
			return false
		}
	}
	return same(a, as)
}

// scribble: writes into all of a list's memory.
func scribble[E any](list []E, fill E) {
	list = list[:cap(list)]
	for i := range list {
		list[i] = fill
	}
}

// TestArgumentsStay: no call changes what it is handed, nor the room behind it; and writing into all that is answered
// changes neither that nor what was answered before.
func TestArgumentsStay(t *testing.T) {
	junk := lin.Term{Var: 99, Coef: rat.Int(99)}
	var list, before []Atom
	for _, a := range atoms() {
		list, before = append(list, roomy(a)), append(before, a)
	}
	for _, a := range exprs() {
		bad := Atom{a, 4}
		list, before = append(list, roomy(bad)), append(before, bad)
	}
	list = append(list, roomy(with(1, 2, 3, 4)))
	whole := list[:cap(list)]
	scribble(whole[len(before):], roomy(with(9, 9, 9, 9)))
	at := slices.Clip(slices.Concat(numbers(), []rat.Rat{rat.Int(55), rat.Int(55)}))
	list = list[:len(before)]
	for i, a := range list {
		Check(a)
		KeyOf(a)
		Holds(a, at[:len(at)-2])
		first, _, _ := Canon(a)
		copied := Atom{lin.Expr{Terms: slices.Clone(first.E.Terms), Const: first.E.Const}, first.Op}
		second, _, _ := Canon(a)
		scribble(second.E.Terms, junk)
		nots, _ := Not(a)
		for _, n := range nots {
			scribble(n.E.Terms, junk)
		}
		scribble(nots, Atom{Op: 9})
		if !untouched(a, before[i]) || !same(first, copied) {
			t.Errorf("%s is now %s", show(before[i]), show(a))
		}
	}
	places := Places(list)
	again := Places(list)
	scribble(places, 7)
	if !slices.Equal(again, placesOf(before)) {
		t.Error("two answers of Places share memory")
	}
	for i, a := range list {
		if !untouched(a, before[i]) {
			t.Errorf("%s is now %s", show(before[i]), show(a))
		}
	}
	for _, a := range whole[len(before):] {
		if !untouched(a, with(9, 9, 9, 9)) {
			t.Errorf("the room behind the list holds %s", show(a))
		}
	}
	if !slices.EqualFunc(at, slices.Concat(numbers(), []rat.Rat{rat.Int(55), rat.Int(55)}), func(a, b rat.Rat) bool { return rat.Cmp(a, b) == 0 }) {
		t.Error("the point is another one now")
	}
}

// TestPartsOfNotAreApart: the two constraints of an equation's opposite share no memory, and Canon's is its own even
// where there was nothing to do.
func TestPartsOfNotAreApart(t *testing.T) {
	a := with(Eq, 1, 0, 1, 1, 2)
	list, _ := Not(a)
	scribble(list[0].E.Terms, mark)
	if !same(list[1], with(Lt, -1, 0, -1, 1, -2)) {
		t.Errorf("the second one is now %s", show(list[1]))
	}
	list, _ = Not(a)
	scribble(list[1].E.Terms, mark)
	if !same(list[0], with(Lt, 1, 0, 1, 1, 2)) {
		t.Errorf("the first one is now %s", show(list[0]))
	}
	c, _, _ := Canon(a)
	scribble(c.E.Terms, mark)
	if !same(a, with(Eq, 1, 0, 1, 1, 2)) {
		t.Errorf("the constraint is now %s", show(a))
	}
}

// TestSameAgain: whatever is called between, a call is answered as before.
func TestSameAgain(t *testing.T) {
	all := atoms()
	var keys []Key
	for _, a := range all {
		key, _ := KeyOf(a)
		keys = append(keys, key)
	}
	before := Places(all)
	slices.Reverse(all)
	Places(all)
	slices.Reverse(all)
	if !slices.Equal(Places(all), before) {
		t.Error("Places answers otherwise now")
	}
	for i, a := range all {
		if key, _ := KeyOf(a); key != keys[i] {
			t.Errorf("KeyOf(%s) is %#v now", show(a), key)
		}
	}
}

// TestGreatNumbers: numbers of thousands of digits and expressions of thousands of terms are no reason to refuse.
func TestGreatNumbers(t *testing.T) {
	huge := give(new(big.Rat).SetFrac(new(big.Int).Exp(big.NewInt(3), big.NewInt(20000), nil), new(big.Int).Exp(big.NewInt(7), big.NewInt(9000), nil)))
	a := Atom{lin.Expr{Terms: []lin.Term{{Var: 0, Coef: rat.Neg(huge)}, {Var: 1, Coef: huge}}, Const: rat.Mul(huge, rat.Int(2))}, Lt}
	if c, says, e := Canon(a); !same(c, with(Lt, 2, 0, -1, 1, 1)) || says != Open || e != api.OK {
		t.Errorf("Canon of great numbers: %s, %d, %d", show(c), says, e)
	}
	a.E.Const = huge
	a.E.Terms[0].Coef = rat.Int(1)
	if key, e := KeyOf(a); key != keyOf(a) || e != api.OK {
		t.Errorf("KeyOf of great numbers: error %d", e)
	}
	if holds, e := Holds(a, []rat.Rat{{}, rat.Int(-1)}); holds || e != api.OK {
		t.Errorf("Holds of great numbers: %v, %d", holds, e)
	}
	long := Atom{Op: Eq}
	for v := range 5000 {
		long.E.Terms = append(long.E.Terms, lin.Term{Var: (v * 7919) % 5003, Coef: rat.Int(v%7 - 3)})
	}
	if c, says, _ := Canon(long); says != Open || !inForm(c.E, formOf(long).sum) {
		t.Errorf("Canon of many terms: %d terms, %d", len(c.E.Terms), says)
	}
}
