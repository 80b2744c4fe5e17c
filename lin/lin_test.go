package lin

import (
	"maps"
	"math"
	"math/big"
	"slices"
	"strconv"
	"testing"

	"attest/rat"
)

// limbs: the size of a number as layer 2 writes it.
func limbs(x *big.Int) []uint32 {
	var out []uint32
	x = new(big.Int).Abs(x)
	for x.Sign() > 0 {
		out = append(out, uint32(x.Uint64()&math.MaxUint32))
		x.Rsh(x, 32)
	}
	return out
}

func give(x *big.Rat) rat.Rat {
	r, _ := rat.Make(x.Sign() < 0, limbs(x.Num()), limbs(x.Denom()))
	return r
}

// value: the number of a Rat, for big to work with.
func value(r rat.Rat) *big.Rat {
	neg, num, den := rat.Parts(r)
	x := new(big.Rat).SetFrac(natural(num), natural(den))
	if neg {
		x.Neg(x)
	}
	return x
}

func natural(a []uint32) *big.Int {
	sum := new(big.Int)
	for i := len(a) - 1; i >= 0; i-- {
		sum.Or(sum.Lsh(sum, 32), big.NewInt(int64(a[i])))
	}
	return sum
}

// sum is what an Expr stands for, worked out apart from it: the variables whose coefficients aren't 0, and a constant.
type sum struct {
	coefs map[int]*big.Rat
	rest  *big.Rat
}

func nought() sum {
	return sum{map[int]*big.Rat{}, new(big.Rat)}
}

// at: the coefficient of v.
func (s sum) at(v int) *big.Rat {
	if c, ok := s.coefs[v]; ok {
		return c
	}
	return new(big.Rat)
}

// plus: s + r * o.
func (s sum) plus(r *big.Rat, o sum) sum {
	out := sum{maps.Clone(s.coefs), new(big.Rat).Add(s.rest, new(big.Rat).Mul(r, o.rest))}
	for v, c := range o.coefs {
		out.coefs[v] = new(big.Rat).Add(s.at(v), new(big.Rat).Mul(r, c))
	}
	maps.DeleteFunc(out.coefs, func(_ int, c *big.Rat) bool { return c.Sign() == 0 })
	return out
}

// with: s, with o in the place of v.
func (s sum) with(v int, o sum) sum {
	c := s.at(v)
	left := sum{maps.Clone(s.coefs), s.rest}
	delete(left.coefs, v)
	return left.plus(c, o)
}

// eval: the value at a point, as the document tells which variables have numbers there.
func (s sum) eval(at []*big.Rat) *big.Rat {
	out := new(big.Rat).Set(s.rest)
	for i, x := range at {
		out.Add(out, new(big.Rat).Mul(s.at(i), x))
	}
	return out
}

func (s sum) equal(o sum) bool {
	return s.rest.Cmp(o.rest) == 0 && maps.EqualFunc(s.coefs, o.coefs, func(a, b *big.Rat) bool { return a.Cmp(b) == 0 })
}

func meant(e Expr) sum {
	out := sum{map[int]*big.Rat{}, value(e.Const)}
	for _, t := range e.Terms {
		out = out.plus(one, sum{map[int]*big.Rat{t.Var: value(t.Coef)}, new(big.Rat)})
	}
	return out
}

var one = big.NewRat(1, 1)

func inForm(e Expr) bool {
	for i, t := range e.Terms {
		if rat.Sign(t.Coef) == 0 || i > 0 && e.Terms[i-1].Var >= t.Var {
			return false
		}
	}
	return true
}

func text(e Expr) string {
	out := ""
	for _, t := range e.Terms {
		out += value(t.Coef).RatString() + "*v" + strconv.Itoa(t.Var) + " + "
	}
	return out + value(e.Const).RatString()
}

// check: is the answer in form, and does it mean what it should?
func check(t *testing.T, call string, got Expr, want sum) {
	t.Helper()
	if !inForm(got) || !meant(got).equal(want) {
		t.Errorf("%s = %s", call, text(got))
	}
}

func frac(n, d int) rat.Rat {
	r, _ := rat.Frac(n, d)
	return r
}

// expr: a constant, and variables and coefficients by turns.
func expr(rest int, terms ...int) Expr {
	out := Expr{Const: rat.Int(rest)}
	for i := 0; i < len(terms); i += 2 {
		out.Terms = append(out.Terms, Term{terms[i], rat.Int(terms[i+1])})
	}
	return out
}

// numbers: small ones, those at the edges of ints and words, and long ones.
func numbers() []rat.Rat {
	long := new(big.Int).Lsh(big.NewInt(1), 150)
	above := new(big.Int).Add(long, big.NewInt(1))
	return []rat.Rat{
		{}, rat.Int(1), rat.Int(-1), rat.Int(2), frac(1, 2), frac(-2, 3), rat.Int(math.MaxInt), rat.Int(math.MinInt), frac(1, math.MinInt),
		give(new(big.Rat).SetInt(long)), give(new(big.Rat).SetFrac(above, long)), give(new(big.Rat).SetFrac(long, big.NewInt(-3))),
	}
}

// exprs: expressions with no terms, with terms in any order, with variables several times, with coefficients that are 0
// and that add up to 0, with variables below 0 and at both ends of int's range; and some put together at haphazard, the
// same ones each time.
func exprs() []Expr {
	out := []Expr{
		{}, {Terms: []Term{}}, expr(3), expr(-7), {Const: frac(-5, 7)}, expr(0, 0, 1), expr(0, 1, 1), expr(3, 1, 2, 0, 1, 1, -2, 0, 0),
		expr(0, 0, 2, 1, 1), expr(1, 0, 1), expr(0, 0, -1), expr(-1, 0, 2, 1, 1), expr(0, 0, 1, 0, 1), expr(0, 0, 2), expr(0, 0, 0),
		expr(4, 5, 0, -5, 0), expr(1, 2, 5, 2, -5), expr(1, 2, 5, 2, -5, 2, 5), expr(1, 2, 5, 3, 1, 2, -5, 2, 5, 2, -5, 1, 1),
		expr(0, -1, 7), expr(2, -1, 1, 0, 1, 1, 1), expr(0, math.MaxInt, 1, math.MinInt, 1), expr(9, math.MinInt, 3, math.MaxInt, -3, 0, 1),
		expr(0, math.MinInt, 1, math.MinInt, -1), expr(0, math.MaxInt, 4, math.MaxInt-1, 4, math.MinInt, 4, math.MinInt+1, 4, -1, 4, 0, 4),
		expr(1, 9, 1, 8, 1, 7, 1, 6, 1, 5, 1, 4, 1, 3, 1, 2, 1, 1, 1, 0, 1),
	}
	all := numbers()
	vars := []int{0, 1, 2, 3, -1, 400, math.MaxInt, math.MinInt}
	for n := range 40 {
		e := Expr{Const: all[n*5%len(all)]}
		for k := range n {
			e.Terms = append(e.Terms, Term{vars[(n*k*k+k*3+n)%(1+n%len(vars))], all[(n*7+k*5+k*k)%len(all)]})
		}
		out = append(out, e)
	}
	return out
}

// points: none, some, and more than the small variables ask for.
func points() [][]rat.Rat {
	all := numbers()
	return [][]rat.Rat{nil, {}, {rat.Int(3)}, {rat.Int(-2), frac(1, 3)}, all[:4], all, slices.Concat(all[5:], all, all)}
}

func values(at []rat.Rat) []*big.Rat {
	var out []*big.Rat
	for _, r := range at {
		out = append(out, value(r))
	}
	return out
}

func TestCanon(t *testing.T) {
	for _, e := range exprs() {
		once := Canon(e)
		check(t, "Canon("+text(e)+")", once, meant(e))
		if twice := Canon(once); !slices.EqualFunc(once.Terms, twice.Terms, sameTerm) || rat.Cmp(once.Const, twice.Const) != 0 {
			t.Errorf("Canon of %s is %s", text(once), text(twice))
		}
	}
	// 2y + x + 3 - 2y + 0x
	got := Canon(expr(3, 1, 2, 0, 1, 1, -2, 0, 0))
	if len(got.Terms) != 1 || got.Terms[0].Var != 0 || rat.Cmp(got.Terms[0].Coef, rat.Int(1)) != 0 || rat.Cmp(got.Const, rat.Int(3)) != 0 {
		t.Errorf("Canon of the example: %s", text(got))
	}
	if rat.Sign(Coef(got, 1)) != 0 || !slices.Equal(Vars(got), []int{0}) {
		t.Errorf("Coef and Vars of the example: %v, %v", value(Coef(got, 1)), Vars(got))
	}
}

// TestCanonOfManyTerms: lists longer than those that sorting treats as short ones, each variable many times.
func TestCanonOfManyTerms(t *testing.T) {
	var e Expr
	for k := range 3000 {
		e.Terms = append(e.Terms, Term{(k*7919)%101 - 50, rat.Int(k % 13)})
	}
	check(t, "Canon of many", Canon(e), meant(e))
	back := Scale(rat.Int(-1), e)
	slices.Reverse(e.Terms)
	check(t, "many and their opposites", Add(e, back), nought())
}

func TestVarAndOf(t *testing.T) {
	for _, v := range []int{0, 1, -1, 400, math.MaxInt, math.MinInt} {
		check(t, "Var("+strconv.Itoa(v)+")", Var(v), sum{map[int]*big.Rat{v: one}, new(big.Rat)})
	}
	for _, r := range numbers() {
		check(t, "Of("+value(r).RatString()+")", Of(r), sum{nil, value(r)})
	}
}

func TestCoefAndVars(t *testing.T) {
	for _, e := range exprs() {
		want := meant(e)
		for _, v := range []int{0, 1, 2, 3, 5, -1, -5, 400, math.MaxInt, math.MaxInt - 1, math.MinInt, math.MinInt + 1} {
			if got := Coef(e, v); value(got).Cmp(want.at(v)) != 0 {
				t.Errorf("Coef(%s, %d) = %v", text(e), v, value(got))
			}
		}
		if got := Vars(e); !slices.Equal(got, slices.Sorted(maps.Keys(want.coefs))) {
			t.Errorf("Vars(%s) = %v", text(e), got)
		}
	}
}

func TestSame(t *testing.T) {
	all := exprs()
	for _, a := range all {
		for _, b := range all {
			if got := Same(a, b); got != meant(a).equal(meant(b)) {
				t.Errorf("Same(%s, %s) = %v", text(a), text(b), got)
			}
		}
		turned := Expr{slices.Concat(a.Terms, []Term{{7, rat.Int(4)}, {-3, rat.Rat{}}, {7, rat.Int(-4)}}), a.Const}
		slices.Reverse(turned.Terms)
		if !Same(a, turned) || !Same(turned, a) || !Same(a, Canon(a)) {
			t.Errorf("%s in another form", text(a))
		}
		little := frac(1, math.MaxInt)
		for _, unlike := range []Expr{Add(a, Of(little)), Add(a, Scale(little, Var(3))), Add(a, Var(math.MinInt)), Add(a, Var(math.MaxInt))} {
			if Same(a, unlike) || Same(unlike, a) {
				t.Errorf("Same(%s, %s)", text(a), text(unlike))
			}
		}
	}
	if !Same(expr(0, 0, 1, 0, 1), expr(0, 0, 2)) || !Same(Expr{}, expr(0, 4, 0)) || Same(expr(0, 0, 1), expr(0, 1, 1)) || Same(Expr{}, expr(1)) {
		t.Error("Same of x + x and 2x, of 0 and 0v, of x and y, of 0 and 1")
	}
}

func TestAddAndSub(t *testing.T) {
	all := exprs()
	minus := big.NewRat(-1, 1)
	for _, a := range all {
		for _, b := range all {
			check(t, "("+text(a)+") + ("+text(b)+")", Add(a, b), meant(a).plus(one, meant(b)))
			check(t, "("+text(a)+") - ("+text(b)+")", Sub(a, b), meant(a).plus(minus, meant(b)))
		}
		if got := Sub(a, a); len(got.Terms) != 0 || rat.Sign(got.Const) != 0 {
			t.Errorf("%s less itself = %s", text(a), text(got))
		}
	}
	if got := Add(Var(0), Scale(rat.Int(-1), Var(0))); len(got.Terms) != 0 {
		t.Errorf("x - x = %s", text(got))
	}
}

func TestScale(t *testing.T) {
	for _, e := range exprs() {
		for _, r := range numbers() {
			check(t, value(r).RatString()+" * ("+text(e)+")", Scale(r, e), nought().plus(value(r), meant(e)))
		}
		if got := Scale(rat.Rat{}, e); len(got.Terms) != 0 || rat.Sign(got.Const) != 0 {
			t.Errorf("0 times %s = %s", text(e), text(got))
		}
	}
}

func TestSubst(t *testing.T) {
	all := exprs()
	for _, e := range all {
		for _, by := range all {
			for _, v := range []int{0, 2, -1, 77, math.MaxInt, math.MinInt} {
				check(t, "Subst("+text(e)+", "+strconv.Itoa(v)+", "+text(by)+")", Subst(e, v, by), meant(e).with(v, meant(by)))
			}
		}
	}
	cases := []struct {
		e    Expr
		v    int
		by   Expr
		want Expr
	}{
		{expr(0, 0, 2, 1, 1), 0, expr(1, 0, 1), expr(2, 0, 2, 1, 1)}, {expr(0, 1, 1), 0, expr(0, 0, 1), expr(0, 1, 1)},
		{expr(5, 0, 1, 1, 1, 0, 2), 0, expr(1, 1, -1), expr(8, 1, -2)}, {expr(5, 0, 1, 0, -1), 0, expr(9, 3, 3), expr(5)},
		{expr(0, 0, 1, 1, 1), 0, expr(0, 1, -1), expr(0)}, {expr(0, 0, 3, 1, 2), 1, Expr{}, expr(0, 0, 3)},
		{expr(0, 0, 1), 0, expr(0, 0, 1, 0, 1), expr(0, 0, 2)}, {Expr{}, 0, expr(1, 1, 1), Expr{}},
	}
	for _, c := range cases {
		check(t, "Subst("+text(c.e)+", "+strconv.Itoa(c.v)+", "+text(c.by)+")", Subst(c.e, c.v, c.by), meant(c.want))
	}
}

func TestEval(t *testing.T) {
	for _, e := range exprs() {
		for _, at := range points() {
			want := meant(e).eval(values(at))
			if got := Eval(e, at); value(got).Cmp(want) != 0 {
				t.Errorf("Eval(%s) at %d numbers = %v, not %v", text(e), len(at), value(got), want)
			}
		}
		if got := Eval(e, nil); rat.Cmp(got, e.Const) != 0 {
			t.Errorf("Eval(%s) at none = %v", text(e), value(got))
		}
	}
	three := []rat.Rat{rat.Int(3)}
	if got := Eval(expr(-1, 0, 2, 1, 1), three); rat.Cmp(got, rat.Int(5)) != 0 {
		t.Errorf("Eval(2x + y - 1, (3)) = %v", value(got))
	}
	if got := Eval(expr(2, -1, 7, math.MinInt, 7, math.MaxInt, 7, 1, 7), three); rat.Cmp(got, rat.Int(2)) != 0 {
		t.Errorf("Eval of variables that have no number = %v", value(got))
	}
}

// TestEvalLaws: the value of a sum is the sum of the values, of a product the product; and that of a substitution is the
// value where v has by's value.
func TestEvalLaws(t *testing.T) {
	all := exprs()
	equal := func(law string, got, want rat.Rat) {
		t.Helper()
		if rat.Cmp(got, want) != 0 {
			t.Errorf("%s: %v, not %v", law, value(got), value(want))
		}
	}
	for i, a := range all {
		for j, b := range all {
			at := points()[(i+j)%len(points())]
			x, y, r := Eval(a, at), Eval(b, at), numbers()[(i+3*j)%len(numbers())]
			equal("sum", Eval(Add(a, b), at), rat.Add(x, y))
			equal("difference", Eval(Sub(a, b), at), rat.Sub(x, y))
			equal("product", Eval(Scale(r, a), at), rat.Mul(r, x))
			equal("form", Eval(Canon(a), at), x)
			for v := range at {
				moved := slices.Clone(at)
				moved[v] = y
				equal("substitution", Eval(Subst(a, v, b), at), Eval(a, moved))
			}
		}
	}
}

// TestZeroValue: Expr{} is 0 in every call.
func TestZeroValue(t *testing.T) {
	var none Expr
	for _, e := range exprs() {
		check(t, "e + 0", Add(e, none), meant(e))
		check(t, "0 + e", Add(none, e), meant(e))
		check(t, "e - 0", Sub(e, none), meant(e))
		check(t, "0 - e", Sub(none, e), nought().plus(big.NewRat(-1, 1), meant(e)))
		check(t, "e in 0", Subst(none, 0, e), nought())
		check(t, "0 in e", Subst(e, 0, none), meant(e).with(0, nought()))
		if Same(e, none) != meant(e).equal(nought()) || Same(none, e) != Same(e, none) {
			t.Errorf("Same(%s, 0)", text(e))
		}
	}
	check(t, "Canon", Canon(none), nought())
	check(t, "Scale", Scale(rat.Int(5), none), nought())
	check(t, "Of", Of(rat.Rat{}), nought())
	if rat.Sign(Coef(none, 0)) != 0 || len(Vars(none)) != 0 || rat.Sign(Eval(none, []rat.Rat{rat.Int(1)})) != 0 || !Same(none, none) {
		t.Error("Coef, Vars, Eval or Same of 0")
	}
	zeroTerm := Expr{Terms: make([]Term, 3)}
	if !Same(zeroTerm, none) || len(Canon(zeroTerm).Terms) != 0 || len(Vars(zeroTerm)) != 0 {
		t.Error("terms that are zero values")
	}
}

var mark = Term{55, rat.Int(-55)}

// roomy: the same expression, with room behind its terms that is filled, so that a write there shows.
func roomy(e Expr) Expr {
	n := len(e.Terms)
	return Expr{slices.Clip(slices.Concat(e.Terms, slices.Repeat([]Term{mark}, 5)))[:n], e.Const}
}

func untouched(e, as Expr) bool {
	n := len(as.Terms)
	all := e.Terms[:cap(e.Terms)]
	for _, t := range all[n:] {
		if !sameTerm(t, mark) {
			return false
		}
	}
	return len(e.Terms) == n && slices.EqualFunc(all[:n], as.Terms, sameTerm) && rat.Cmp(e.Const, as.Const) == 0
}

// scribble: writes into all of a list's memory.
func scribble[E any](list []E, fill E) {
	list = list[:cap(list)]
	for i := range list {
		list[i] = fill
	}
}

// answers: of every call that answers an expression.
func answers(a, b Expr) []Expr {
	return []Expr{
		Canon(a), Add(a, b), Sub(a, b), Scale(rat.Int(1), a), Scale(frac(-2, 3), a), Scale(rat.Rat{}, a), Subst(a, 0, b), Subst(a, 77, b),
		Subst(b, 1, a), Add(a, a), Sub(a, a), Subst(a, 0, a), Var(4), Of(a.Const), Add(a, Expr{}), Add(Expr{}, a),
	}
}

// TestArgumentsStay: no call writes into what it is handed, nor behind it, nor is any of that written into by way of an
// answer; and no answer changes with another one or with an argument.
func TestArgumentsStay(t *testing.T) {
	all := exprs()
	for i, e := range all {
		f := all[(i*11+3)%len(all)]
		a, b := roomy(e), roomy(f)
		first, again := answers(a, b), answers(a, b)
		for k, got := range first {
			want := meant(got)
			scribble(got.Terms, Term{99, rat.Int(99)})
			if !meant(again[k]).equal(want) || !inForm(again[k]) {
				t.Errorf("answer %d of %s and %s changed with the one ahead of it", k, text(e), text(f))
			}
		}
		if !untouched(a, e) || !untouched(b, f) {
			t.Errorf("%s is now %s, and %s is %s", text(e), text(a), text(f), text(b))
		}
		scribble(a.Terms, Term{98, rat.Int(98)})
		scribble(b.Terms, Term{98, rat.Int(98)})
		for k, want := range answers(e, f) {
			if !meant(again[k]).equal(meant(want)) {
				t.Errorf("answer %d of %s and %s changed with what was handed in", k, text(e), text(f))
			}
		}
	}
}

// TestListsAreNew: the lists of Vars are new ones, and Eval, Coef and Same leave everything as it was.
func TestListsAreNew(t *testing.T) {
	for _, e := range exprs() {
		a, b := roomy(e), roomy(Expr{slices.Repeat(e.Terms, 2), e.Const})
		twice := Expr{slices.Repeat(e.Terms, 2), e.Const}
		vars, again := Vars(a), Vars(a)
		scribble(vars, 99)
		if !slices.Equal(again, slices.Sorted(maps.Keys(meant(e).coefs))) {
			t.Errorf("the lists of Vars(%s) share memory", text(e))
		}
		at := slices.Concat(numbers(), numbers())[:len(numbers())]
		Eval(a, at)
		for i, r := range at[:2*len(numbers())] {
			if rat.Cmp(r, numbers()[i%len(numbers())]) != 0 {
				t.Errorf("Eval changed number %d of the point", i)
			}
		}
		Coef(a, 0)
		Same(a, b)
		if !untouched(a, e) || !untouched(b, twice) {
			t.Errorf("%s is now %s", text(e), text(a))
		}
	}
}
