package smt

import (
	"fmt"
	"math"
	"math/big"
	"slices"
	"strings"
	"testing"

	"attest/api"
	"attest/atom"
	"attest/lin"
	"attest/rat"
	"attest/rtext"
)

// some: a row of numbers put together at haphazard, the same ones each time.
type some uint64

// below: the next number, from 0 to n - 1.
func (s *some) below(n int) int {
	*s = *s*6364136223846793005 + 1442695040888963407
	return int(uint64(*s)>>33) % n
}

func frac(n, d int) rat.Rat {
	r, _ := rat.Frac(n, d)
	return r
}

func parsed(s string) rat.Rat {
	r, e := rtext.Parse(s)
	if e != api.OK {
		panic("no number: " + s)
	}
	return r
}

// value: the number of a Rat, for big to work with.
func value(r rat.Rat) *big.Rat {
	out, _ := new(big.Rat).SetString(rtext.Print(r))
	return out
}

// with: a constraint of an Op and a constant, and of variables and coefficients by turns.
func with(op, rest int, terms ...int) atom.Atom {
	out := atom.Atom{Op: op, E: lin.Expr{Const: rat.Int(rest)}}
	for i := 0; i < len(terms); i += 2 {
		out.E.Terms = append(out.E.Terms, lin.Term{Var: terms[i], Coef: rat.Int(terms[i+1])})
	}
	return out
}

// show: a constraint as a test tells it; two are told alike just if they are the same, term by term.
func show(a atom.Atom) string {
	out := fmt.Sprintf("op %d of", a.Op)
	for _, t := range a.E.Terms {
		out += fmt.Sprintf(" %s*x%d", rtext.Print(t.Coef), t.Var)
	}
	return out + " and " + rtext.Print(a.E.Const)
}

func showAll(p Problem) string {
	out := fmt.Sprintf("%d reals, %d truths;", p.Reals, p.Bools)
	for _, a := range p.Atoms {
		out += " " + show(a) + ";"
	}
	return out + fmt.Sprint(" ", p.Clauses)
}

// same: are two problems the same, number by number, a list that is nil like an empty one?
func same(p, q Problem) bool {
	return p.Reals == q.Reals && p.Bools == q.Bools && slices.EqualFunc(p.Atoms, q.Atoms, func(a, b atom.Atom) bool { return show(a) == show(b) }) &&
		slices.EqualFunc(p.Clauses, q.Clauses, slices.Equal)
}

func isZero(p Problem) bool {
	return p.Reals == 0 && p.Bools == 0 && len(p.Atoms) == 0 && len(p.Clauses) == 0
}

// deepCopy: the same problem in new memory.
func deepCopy(p Problem) Problem {
	out := Problem{Reals: p.Reals, Bools: p.Bools}
	for _, a := range p.Atoms {
		a.E.Terms = slices.Clone(a.E.Terms)
		out.Atoms = append(out.Atoms, a)
	}
	for _, c := range p.Clauses {
		out.Clauses = append(out.Clauses, slices.Clone(c))
	}
	return out
}

// isNoted: is it in form, by what the chapter says of it, each thing looked at apart?
func isNoted(p Problem) bool {
	if p.Reals < 0 || p.Bools < 0 {
		return false
	}
	seen := map[string]bool{}
	for _, a := range p.Atoms {
		canon, says, e := atom.Canon(a)
		if e != api.OK || says != atom.Open || show(canon) != show(a) || seen[show(a)] {
			return false
		}
		seen[show(a)] = true
		for _, t := range a.E.Terms {
			if t.Var < 0 || t.Var >= p.Reals {
				return false
			}
		}
	}
	for _, c := range p.Clauses {
		last := 0
		for _, l := range c {
			v := max(l, -l)
			if v <= 0 || v > p.Bools+len(p.Atoms) || v < max(last, -last) || v == last && l > 0 || v == -last {
				return false
			}
			last = l
		}
	}
	return true
}

// errorOf: what Check should say.
func errorOf(p Problem) api.Errno {
	if p.Reals > 400 || p.Bools > 1000 || len(p.Atoms) > 2000 || len(p.Clauses) > 4000 {
		return api.ErrBig
	}
	for _, c := range p.Clauses {
		if len(c) > 64 {
			return api.ErrBig
		}
	}
	if !isNoted(p) {
		return api.ErrForm
	}
	return api.OK
}

// isMet: does a constraint hold at a point?
func isMet(a atom.Atom, xs []rat.Rat) bool {
	sum := value(a.E.Const)
	for _, t := range a.E.Terms {
		if t.Var >= 0 && t.Var < len(xs) {
			sum.Add(sum, new(big.Rat).Mul(value(t.Coef), value(xs[t.Var])))
		}
	}
	switch sign := sum.Sign(); a.Op {
	case atom.Le:
		return sign <= 0
	case atom.Lt:
		return sign < 0
	default:
		return sign == 0
	}
}

// isTrue: does each clause of a problem, in form or not, have a true literal?
func isTrue(p Problem, xs []rat.Rat, bs []bool) bool {
	truth := func(v int) bool {
		if v <= p.Bools {
			return v-1 < len(bs) && bs[v-1]
		}
		return isMet(p.Atoms[v-1-p.Bools], xs)
	}
	for _, c := range p.Clauses {
		if !slices.ContainsFunc(c, func(l int) bool { return l > 0 && truth(l) || l < 0 && !truth(-l) }) {
			return false
		}
	}
	return true
}

// constraint: one over some real variables, in form of layer 9 but often in no canonical one.
func (s *some) constraint(reals int) atom.Atom {
	a := atom.Atom{Op: 1 + s.below(3), E: lin.Expr{Const: frac(s.below(9)-4, 1+s.below(3))}}
	for range s.below(4) {
		if reals > 0 {
			a.E.Terms = append(a.E.Terms, lin.Term{Var: s.below(reals), Coef: frac(s.below(7)-3, 1+s.below(2))})
		}
	}
	return a
}

// loose: a problem that Tidy takes, seldom in form.
func (s *some) loose() Problem {
	p := Problem{Reals: s.below(4), Bools: s.below(4)}
	for range s.below(6) {
		p.Atoms = append(p.Atoms, s.constraint(p.Reals))
	}
	for range s.below(6) {
		var c []int
		for range s.below(5) {
			if n := p.Bools + len(p.Atoms); n > 0 {
				c = append(c, (1+s.below(n))*(1-2*s.below(2)))
			}
		}
		p.Clauses = append(p.Clauses, c)
	}
	return p
}

// tidy: a problem in form.
func (s *some) tidy() Problem {
	p := s.loose()
	atoms := p.Atoms
	p.Atoms, p.Clauses = nil, nil
	for _, a := range atoms {
		canon, says, _ := atom.Canon(a)
		if says == atom.Open && !slices.ContainsFunc(p.Atoms, func(b atom.Atom) bool { return show(b) == show(canon) }) {
			p.Atoms = append(p.Atoms, canon)
		}
	}
	for range s.below(7) {
		var c []int
		for v := 1; v <= p.Bools+len(p.Atoms); v++ {
			switch s.below(6) {
			case 0:
				c = append(c, v)
			case 1:
				c = append(c, -v)
			case 2:
				c = append(c, [][]int{{v, -v}, {v}, {-v}, nil}[s.below(4)]...)
			}
		}
		p.Clauses = append(p.Clauses, c)
	}
	return p
}

// judged is a problem, and what Check says of it.
type judged struct {
	name string
	p    Problem
	want api.Errno
}

// bounds: so many constraints, no two the same.
func bounds(n int) []atom.Atom {
	out := make([]atom.Atom, n)
	for i := range out {
		out[i] = with(atom.Le, -i, 0, 1)
	}
	return out
}

// upTo: the clause of the literals 1 to n.
func upTo(n int) []int {
	c := make([]int, n)
	for i := range c {
		c[i] = i + 1
	}
	return c
}

// limits: problems with each thing at its limit and above it.
func limits() []judged {
	clauses := func(n int) [][]int { return make([][]int, n) }
	return []judged{
		{"400 reals", Problem{Reals: 400}, api.OK}, {"401 reals", Problem{Reals: 401}, api.ErrBig}, {"the most reals", Problem{Reals: math.MaxInt}, api.ErrBig},
		{"1000 truths", Problem{Bools: 1000}, api.OK}, {"1001 truths", Problem{Bools: 1001}, api.ErrBig}, {"the most truths", Problem{Bools: math.MaxInt}, api.ErrBig},
		{"2000 constraints", Problem{Reals: 1, Atoms: bounds(2000)}, api.OK}, {"2001 constraints", Problem{Reals: 1, Atoms: bounds(2001)}, api.ErrBig},
		{"4000 clauses", Problem{Clauses: clauses(4000)}, api.OK}, {"4001 clauses", Problem{Clauses: clauses(4001)}, api.ErrBig},
		{"64 literals", Problem{Bools: 64, Clauses: [][]int{upTo(64)}}, api.OK}, {"65 literals", Problem{Bools: 65, Clauses: [][]int{upTo(65)}}, api.ErrBig},
		{"64 literals behind others", Problem{Bools: 64, Clauses: [][]int{nil, {1}, upTo(64), upTo(64)}}, api.OK}, {"65 literals behind others", Problem{Bools: 65, Clauses: [][]int{nil, {1}, upTo(64), upTo(65)}}, api.ErrBig},
		{"one literal 64 times", Problem{Bools: 1, Clauses: [][]int{slices.Repeat([]int{1}, 64)}}, api.ErrForm}, {"one literal 65 times", Problem{Bools: 1, Clauses: [][]int{slices.Repeat([]int{1}, 65)}}, api.ErrBig},
		{"all at their limits", Problem{400, 1000, bounds(2000), slices.Repeat([][]int{upTo(64)}, 4000)}, api.OK}, {"nothing", Problem{}, api.OK},
		{"empty lists", Problem{Atoms: []atom.Atom{}, Clauses: [][]int{}}, api.OK}, {"-1 reals", Problem{Reals: -1}, api.ErrForm}, {"-1 truths", Problem{Bools: -1}, api.ErrForm},
		{"the least reals", Problem{Reals: math.MinInt}, api.ErrForm}, {"the least truths", Problem{Bools: math.MinInt}, api.ErrForm}, {"both below 0", Problem{Reals: -5, Bools: -7}, api.ErrForm},
		{"-1 reals and a constraint", Problem{Reals: -1, Atoms: bounds(1)}, api.ErrForm}, {"-1 truths, a constraint and a literal", Problem{Reals: 1, Bools: -1, Atoms: bounds(2), Clauses: [][]int{{1}}}, api.ErrForm},
		{"the least truths and a literal", Problem{Reals: 1, Bools: math.MinInt, Atoms: bounds(2), Clauses: [][]int{{1}}}, api.ErrForm},
	}
}

// constraints: lists of them in form and in none.
func constraints() []judged {
	le := func(rest int, terms ...int) atom.Atom { return with(atom.Le, rest, terms...) }
	third := le(0, 0, 1)
	third.E.Terms = append(third.E.Terms, lin.Term{Var: 1, Coef: frac(-1, 3)})
	part := third
	part.E.Terms = []lin.Term{{Var: 0, Coef: frac(1, 3)}}
	out := []judged{}
	for _, x := range []struct {
		name  string
		reals int
		atoms []atom.Atom
		want  api.Errno
	}{
		{"open", 1, []atom.Atom{le(5, 0, 1)}, api.OK}, {"-1 first", 1, []atom.Atom{le(5, 0, -1)}, api.OK}, {"strict, -1 first", 1, []atom.Atom{with(atom.Lt, 5, 0, -1)}, api.OK}, {"an equation", 1, []atom.Atom{with(atom.Eq, 5, 0, 1)}, api.OK},
		{"an equation, -1 first", 1, []atom.Atom{with(atom.Eq, 5, 0, -1)}, api.ErrForm}, {"2 first", 1, []atom.Atom{le(5, 0, 2)}, api.ErrForm}, {"-2 first", 1, []atom.Atom{le(5, 0, -2)}, api.ErrForm}, {"an equation, 2 first", 1, []atom.Atom{with(atom.Eq, 4, 0, 2)}, api.ErrForm},
		{"1/3 first", 1, []atom.Atom{part}, api.ErrForm}, {"-1/3 second", 2, []atom.Atom{third}, api.OK}, {"closed, true", 1, []atom.Atom{le(0)}, api.ErrForm}, {"closed, false", 1, []atom.Atom{le(1)}, api.ErrForm}, {"closed equation", 1, []atom.Atom{with(atom.Eq, 0)}, api.ErrForm},
		{"closed by opposites", 1, []atom.Atom{le(0, 0, 1, 0, -1)}, api.ErrForm}, {"closed by 0", 1, []atom.Atom{le(0, 0, 0)}, api.ErrForm}, {"a factor 0", 2, []atom.Atom{le(0, 0, 1, 1, 0)}, api.ErrForm}, {"a factor 0 in front", 2, []atom.Atom{le(0, 0, 0, 1, 1)}, api.ErrForm},
		{"a variable twice", 1, []atom.Atom{le(0, 0, 1, 0, 1)}, api.ErrForm}, {"a variable twice, in all once", 1, []atom.Atom{le(0, 0, 2, 0, -1)}, api.ErrForm}, {"falling variables", 2, []atom.Atom{le(0, 1, 1, 0, 1)}, api.ErrForm}, {"rising variables", 3, []atom.Atom{le(0, 0, 1, 2, 7)}, api.OK},
		{"the last variable", 400, []atom.Atom{le(0, 399, 1)}, api.OK}, {"one above it", 399, []atom.Atom{le(0, 399, 1)}, api.ErrForm}, {"variable 0 of none", 0, []atom.Atom{le(0, 0, 1)}, api.ErrForm}, {"variable 2 of two, behind others", 2, []atom.Atom{le(0, 0, 1, 1, 1, 2, 1)}, api.ErrForm},
		{"variable -1", 2, []atom.Atom{le(0, -1, 1)}, api.ErrForm}, {"variable -1 and another one", 2, []atom.Atom{le(0, -1, 1, 0, 1)}, api.ErrForm}, {"the greatest variable", 400, []atom.Atom{le(0, math.MaxInt, 1)}, api.ErrForm}, {"the least variable", 400, []atom.Atom{le(0, math.MinInt, 1)}, api.ErrForm},
		{"Op 0", 1, []atom.Atom{with(0, 0, 0, 1)}, api.ErrForm}, {"Op 4", 1, []atom.Atom{with(4, 0, 0, 1)}, api.ErrForm}, {"Op -1", 1, []atom.Atom{with(-1, 0, 0, 1)}, api.ErrForm}, {"no constraint", 1, []atom.Atom{{}}, api.ErrForm},
		{"two alike", 1, []atom.Atom{le(1, 0, 1), le(1, 0, 1)}, api.ErrForm}, {"two alike, others between", 2, []atom.Atom{le(1, 0, 1), le(1, 1, 1), le(1, 0, -1), le(1, 0, 1)}, api.ErrForm}, {"two with other Ops", 1, []atom.Atom{le(1, 0, 1), with(atom.Lt, 1, 0, 1), with(atom.Eq, 1, 0, 1)}, api.OK},
		{"two with other constants", 1, []atom.Atom{le(1, 0, 1), le(-1, 0, 1)}, api.OK}, {"two opposites", 1, []atom.Atom{le(1, 0, 1), with(atom.Lt, -1, 0, -1)}, api.OK}, {"two with other variables", 2, []atom.Atom{le(1, 0, 1), le(1, 1, 1)}, api.OK},
		{"a wrong one behind others", 2, []atom.Atom{le(1, 0, 1), le(1, 1, 1), le(1, 0, 3)}, api.ErrForm}, {"the last one closed", 2, []atom.Atom{le(1, 0, 1), le(1, 1, 1), le(-1)}, api.ErrForm},
	} {
		out = append(out, judged{x.name, Problem{Reals: x.reals, Atoms: x.atoms}, x.want})
	}
	return out
}

// literals: clauses over three truths and two constraints.
func literals() []judged {
	out := []judged{}
	for _, x := range []struct {
		c    []int
		want api.Errno
	}{
		{nil, api.OK}, {[]int{1}, api.OK}, {[]int{-1}, api.OK}, {[]int{3}, api.OK}, {[]int{4}, api.OK}, {[]int{5}, api.OK}, {[]int{-5}, api.OK}, {[]int{6}, api.ErrForm}, {[]int{-6}, api.ErrForm}, {[]int{1, 6}, api.ErrForm}, {[]int{1, -6}, api.ErrForm}, {[]int{0}, api.ErrForm},
		{[]int{0, 1}, api.ErrForm}, {[]int{1, 0}, api.ErrForm}, {[]int{math.MinInt}, api.ErrForm}, {[]int{math.MaxInt}, api.ErrForm}, {[]int{-math.MaxInt}, api.ErrForm}, {[]int{1, math.MinInt}, api.ErrForm}, {[]int{1, 2, 3, 4, 5}, api.OK}, {[]int{-1, -2, -3, -4, -5}, api.OK}, {[]int{-1, 2, -3, 4}, api.OK},
		{[]int{2, 1}, api.ErrForm}, {[]int{1, 1}, api.ErrForm}, {[]int{-1, -1}, api.ErrForm}, {[]int{1, -1}, api.OK}, {[]int{-1, 1}, api.ErrForm}, {[]int{1, -1, 2, -2}, api.OK}, {[]int{1, 2, -2, -1}, api.ErrForm}, {[]int{1, -1, 1}, api.ErrForm}, {[]int{5, 4}, api.ErrForm}, {[]int{-2, 1}, api.ErrForm},
	} {
		for _, clauses := range [][][]int{{x.c}, {{1}, x.c}, {x.c, {1}}, {nil, {2, 5}, x.c, x.c}} {
			out = append(out, judged{fmt.Sprint("the clauses ", clauses), Problem{2, 3, bounds(2), clauses}, x.want})
		}
	}
	return out
}

// both: problems that are too great and not in form.
func both() []judged {
	var out []judged
	for _, big := range limits() {
		if big.want != api.ErrBig {
			continue
		}
		for _, form := range slices.Concat(constraints(), literals()[:60]) {
			if form.want == api.ErrForm {
				p := deepCopy(big.p)
				p.Atoms, p.Clauses = append(form.p.Atoms, p.Atoms...), append(form.p.Clauses, p.Clauses...)
				out = append(out, judged{big.name + " and " + form.name, p, api.ErrBig})
			}
		}
		p, q := big.p, big.p
		if p.Bools <= 1000 {
			p.Bools = -1
			out = append(out, judged{big.name + " and -1 truths", p, api.ErrBig})
		}
		if q.Reals <= 400 {
			q.Reals = math.MinInt
			out = append(out, judged{big.name + " and the least reals", q, api.ErrBig})
		}
	}
	return out
}

func cases() []judged {
	return slices.Concat(limits(), constraints(), literals(), both())
}

func TestLimits(t *testing.T) {
	if api.MaxVars != 400 || api.MaxBools != 1000 || api.MaxAtoms != 2000 || api.MaxClauses != 4000 || api.MaxLits != 64 || api.MaxDigits != 20000 || api.MaxWords != 100000 || api.MaxText != 1000000 {
		t.Error("other limits")
	}
}

func TestCheck(t *testing.T) {
	for _, c := range cases() {
		if got := Check(c.p); got != c.want {
			t.Errorf("Check of %s: %d, not %d", c.name, got, c.want)
		}
	}
}

// TestCheckOfMany: problems in form, others, and such as have been changed a little.
func TestCheckOfMany(t *testing.T) {
	s, said := some(5), map[api.Errno]int{}
	for range 6000 {
		p := []func() Problem{s.tidy, s.loose}[s.below(4)/3]()
		s.change(&p)
		want := errorOf(p)
		said[want]++
		if got := Check(p); got != want {
			t.Fatalf("Check(%s) = %d, not %d", showAll(p), got, want)
		}
	}
	if said[api.OK] < 500 || said[api.ErrForm] < 500 {
		t.Errorf("%v", said)
	}
}

// change does one small thing to a problem, or nothing.
func (s *some) change(p *Problem) {
	switch s.below(8) {
	case 0:
		p.Reals--
	case 1:
		p.Bools--
	case 2:
		if len(p.Atoms) > 0 {
			p.Atoms = p.Atoms[1:]
		}
	case 3:
		p.Clauses = append(p.Clauses, []int{s.below(13) - 6, s.below(13) - 6})
	case 4:
		p.Atoms = append(p.Atoms, s.constraint(max(p.Reals, 0)+1))
	case 5:
		if len(p.Atoms) > 0 {
			a := p.Atoms[s.below(len(p.Atoms))]
			a.Op = s.below(5)
			p.Atoms = append(p.Atoms, a)
		}
	}
}

// points: lists of numbers and of truths, shorter and longer ones.
func (s *some) points() ([]rat.Rat, []bool) {
	xs, bs := make([]rat.Rat, s.below(6)), make([]bool, s.below(6))
	for i := range xs {
		xs[i] = frac(s.below(9)-4, 1+s.below(3))
	}
	for i := range bs {
		bs[i] = s.below(2) == 0
	}
	return xs, bs
}

func TestHolds(t *testing.T) {
	s, said := some(9), map[bool]int{}
	for range 3000 {
		p := s.tidy()
		for range 4 {
			xs, bs := s.points()
			want := isTrue(p, xs, bs)
			said[want]++
			if got, e := Holds(p, xs, bs); got != want || e != api.OK {
				t.Fatalf("Holds(%s, %v, %v) = %v, %d", showAll(p), xs, bs, got, e)
			}
		}
	}
	if said[true] < 1000 || said[false] < 1000 {
		t.Errorf("%v", said)
	}
}

// TestHoldsAtTheEnds: without clauses, with an empty one, with fewer and with more numbers and truths than variables.
func TestHoldsAtTheEnds(t *testing.T) {
	le, lt, eq := with(atom.Le, -3, 0, 1), with(atom.Lt, -3, 0, 1), with(atom.Eq, 0, 0, 1, 1, 1)
	one, three, four := rat.Int(1), rat.Int(3), rat.Int(4)
	all := []atom.Atom{le, lt, eq}
	for i, x := range []struct {
		p    Problem
		xs   []rat.Rat
		bs   []bool
		want bool
	}{
		{Problem{}, nil, nil, true}, {Problem{Clauses: [][]int{nil}}, nil, nil, false}, {Problem{Clauses: [][]int{nil}}, []rat.Rat{one}, []bool{true}, false},
		{Problem{2, 0, all, [][]int{{1}}}, nil, nil, true}, {Problem{2, 0, all, [][]int{{1}}}, []rat.Rat{three}, nil, true}, {Problem{2, 0, all, [][]int{{2}}}, []rat.Rat{three}, nil, false}, {Problem{2, 0, all, [][]int{{-2}}}, []rat.Rat{three}, nil, true},
		{Problem{2, 0, all, [][]int{{1}}}, []rat.Rat{four}, nil, false}, {Problem{2, 0, all, [][]int{{3}}}, nil, nil, true}, {Problem{2, 0, all, [][]int{{3}}}, []rat.Rat{one}, nil, false}, {Problem{2, 0, all, [][]int{{3}}}, []rat.Rat{one, rat.Int(-1)}, nil, true},
		{Problem{2, 0, all, [][]int{{3}}}, []rat.Rat{one, rat.Int(-1), four, four}, nil, true}, {Problem{2, 0, all, [][]int{{1}, {-3}}}, []rat.Rat{one}, nil, true}, {Problem{2, 0, all, [][]int{{1}, {3}}}, []rat.Rat{one}, nil, false},
		{Problem{Bools: 2, Clauses: [][]int{{1}}}, nil, nil, false}, {Problem{Bools: 2, Clauses: [][]int{{-1}}}, nil, nil, true}, {Problem{Bools: 2, Clauses: [][]int{{1}}}, nil, []bool{true}, true}, {Problem{Bools: 2, Clauses: [][]int{{2}}}, nil, []bool{true}, false},
		{Problem{Bools: 2, Clauses: [][]int{{2}}}, nil, []bool{true, true}, true}, {Problem{Bools: 2, Clauses: [][]int{{1, 2}}}, nil, []bool{false, false, true, true}, false}, {Problem{Bools: 2, Clauses: [][]int{{-1, 2}}}, nil, []bool{false, false, true}, true},
		{Problem{2, 1, all, [][]int{{2}}}, []rat.Rat{four}, []bool{true, true, true, true, true, true}, false}, {Problem{2, 1, all, [][]int{{-2}}}, []rat.Rat{one}, []bool{true, false, false, false}, false}, {Problem{2, 1, all, [][]int{{1}}}, []rat.Rat{four}, []bool{true, true}, true},
		{Problem{2, 0, all, [][]int{{-1}}}, []rat.Rat{one}, []bool{false, false, false, false}, false}, {Problem{2, 0, all, [][]int{{1}}}, []rat.Rat{four}, []bool{true, true, true}, false}, {Problem{Bools: 1, Clauses: [][]int{{1, -1}}}, nil, nil, true},
	} {
		if got, e := Holds(x.p, x.xs, x.bs); got != x.want || e != api.OK {
			t.Errorf("%d: Holds(%s) = %v, %d", i, showAll(x.p), got, e)
		}
	}
}

// TestHoldsOfCases: the error of Check and false.
func TestHoldsOfCases(t *testing.T) {
	for _, c := range cases() {
		got, e := Holds(c.p, []rat.Rat{rat.Int(1)}, []bool{true})
		if e != c.want || e != api.OK && got {
			t.Errorf("Holds of %s: %v, %d", c.name, got, e)
		}
		if e == api.OK && got != isTrue(c.p, []rat.Rat{rat.Int(1)}, []bool{true}) {
			t.Errorf("Holds of %s: %v", c.name, got)
		}
	}
}

// ten: 10 to the n.
func ten(n int) rat.Rat {
	if n < 20000 {
		return parsed("1" + strings.Repeat("0", n))
	}
	return rat.Mul(ten(19999), ten(n-19999))
}

// TestGreatNumbers: none is refused because it is great.
func TestGreatNumbers(t *testing.T) {
	great := ten(25000)
	small, _ := rat.Inv(great)
	a, b := with(atom.Le, 0, 0, 1), with(atom.Le, 0, 0, 1)
	a.E.Const, b.E.Const = rat.Neg(great), rat.Neg(small)
	b.E.Terms = append(b.E.Terms, lin.Term{Var: 1, Coef: great})
	p := Problem{Reals: 2, Atoms: []atom.Atom{a, b}, Clauses: [][]int{{1}, {2}}}
	if e := Check(p); e != api.OK {
		t.Errorf("Check: %d", e)
	}
	if got, e := Holds(p, []rat.Rat{small}, nil); !got || e != api.OK {
		t.Errorf("Holds: %v, %d", got, e)
	}
	if got, e := Holds(p, []rat.Rat{great, rat.Int(-1)}, nil); !got || e != api.OK {
		t.Errorf("Holds: %v, %d", got, e)
	}
	if got, e := Holds(p, []rat.Rat{great}, nil); got || e != api.OK {
		t.Errorf("Holds: %v, %d", got, e)
	}
	b.E = lin.Scale(great, b.E)
	if got, e := Tidy(Problem{Reals: 2, Atoms: []atom.Atom{a, b, a}, Clauses: [][]int{{3}, {2, 1}}}); e != api.OK || !same(got, Problem{2, 0, p.Atoms, [][]int{{1}, {1, 2}}}) {
		t.Errorf("Tidy: %d constraints, %v, %d", len(got.Atoms), got.Clauses, e)
	}
	if e := Check(Problem{Reals: 2, Atoms: []atom.Atom{a, b}}); e != api.ErrForm {
		t.Errorf("Check: %d", e)
	}
}

// roomy: the same problem, each list with room behind it, filled with what isn't of the list.
func roomy(p Problem) Problem {
	out := Problem{Reals: p.Reals, Bools: p.Bools}
	spare := with(7, 7, 7, 7)
	for _, a := range p.Atoms {
		n := len(a.E.Terms)
		a.E.Terms = append(slices.Clone(a.E.Terms), spare.E.Terms[0], spare.E.Terms[0])[:n]
		out.Atoms = append(out.Atoms, a)
	}
	out.Atoms = append(out.Atoms, spare, spare)[:len(p.Atoms)]
	for _, c := range p.Clauses {
		out.Clauses = append(out.Clauses, append(slices.Clone(c), 77, -77)[:len(c)])
	}
	out.Clauses = append(out.Clauses, []int{77}, []int{-77})[:len(p.Clauses)]
	return out
}

// untouched: are a problem and the room behind its lists as roomy made them of p?
func untouched(got, p Problem) bool {
	if !same(got, p) {
		return false
	}
	spare := with(7, 7, 7, 7)
	for i, a := range got.Atoms[:len(p.Atoms)+2] {
		if i >= len(p.Atoms) {
			if show(a) != show(spare) {
				return false
			}
			continue
		}
		for _, t := range a.E.Terms[len(a.E.Terms) : len(a.E.Terms)+2] {
			if t.Var != 7 || rat.Cmp(t.Coef, rat.Int(7)) != 0 {
				return false
			}
		}
	}
	for i, c := range got.Clauses[:len(p.Clauses)+2] {
		want := [][]int{{77}, {-77}}[max(0, i-len(p.Clauses))]
		if i < len(p.Clauses) {
			c, want = c[len(c):len(c)+2], []int{77, -77}
		}
		if !slices.Equal(c, want) {
			return false
		}
	}
	return true
}

// spoil writes into all memory of a problem.
func spoil(p Problem) {
	for _, a := range p.Atoms[:cap(p.Atoms)] {
		terms := a.E.Terms[:cap(a.E.Terms)]
		for i := range terms {
			terms[i] = lin.Term{Var: 9, Coef: rat.Int(9)}
		}
	}
	for _, c := range p.Clauses[:cap(p.Clauses)] {
		c = c[:cap(c)]
		for i := range c {
			c[i] = 99
		}
	}
	for i := range p.Atoms {
		p.Atoms[i] = with(9, 9)
	}
	for i := range p.Clauses {
		p.Clauses[i] = []int{99}
	}
}

func TestNothingIsChanged(t *testing.T) {
	s := some(13)
	for range 1000 {
		p := []func() Problem{s.tidy, s.loose}[s.below(2)]()
		s.change(&p)
		given := roomy(p)
		xs, bs := s.points()
		x, b := append(slices.Clone(xs), rat.Int(55))[:len(xs)], append(slices.Clone(bs), true)[:len(bs)]
		Check(given)
		Holds(given, x, b)
		Print(given)
		tidied, _ := Tidy(given)
		spoil(tidied)
		if !untouched(given, p) {
			t.Fatalf("%s is changed: %s", showAll(p), showAll(given))
		}
		if !slices.Equal(b[:len(b)+1], append(slices.Clone(bs), true)) || !slices.EqualFunc(x[:len(x)+1], append(slices.Clone(xs), rat.Int(55)), func(a, b rat.Rat) bool { return rat.Cmp(a, b) == 0 }) {
			t.Fatalf("%v or %v is changed", xs, bs)
		}
	}
}

// TestAnswersAreNew: what is done to an answer is nothing to what was handed in, nor to another answer; nor the other way.
func TestAnswersAreNew(t *testing.T) {
	s := some(17)
	for range 1000 {
		p := []func() Problem{s.tidy, s.loose}[s.below(2)]()
		kept := deepCopy(p)
		want := byHand(p)
		first, _ := Tidy(p)
		second, _ := Tidy(p)
		spoil(first)
		if !same(p, kept) || !same(second, want) {
			t.Fatalf("Tidy(%s) shares memory", showAll(kept))
		}
		text, e := Print(second)
		if e != api.OK {
			t.Fatalf("Print: %d", e)
		}
		spoil(p)
		read, _ := Parse(text)
		again, _ := Parse(text)
		spoil(second)
		spoil(read)
		if third, _ := Parse(text); !same(again, want) || !same(third, want) {
			t.Fatalf("Parse(%q) shares memory", text)
		}
	}
}

// TestListsOfAnAnswerAreApart: each may be made longer without another one's being changed.
func TestListsOfAnAnswerAreApart(t *testing.T) {
	s := some(19)
	for range 500 {
		p := s.tidy()
		text, _ := Print(p)
		tidied, _ := Tidy(p)
		read, _ := Parse(text)
		for _, answer := range []Problem{tidied, read} {
			for i := range answer.Clauses {
				answer.Clauses[i] = append(answer.Clauses[i], 1000+i)
			}
			for i := range answer.Atoms {
				answer.Atoms[i].E.Terms = append(answer.Atoms[i].E.Terms, lin.Term{Var: 1000 + i})
			}
			for i, c := range answer.Clauses {
				if c[len(c)-1] != 1000+i {
					t.Fatalf("clause %d of %s has another one's literal", i, showAll(p))
				}
			}
			for i, a := range answer.Atoms {
				if a.E.Terms[len(a.E.Terms)-1].Var != 1000+i {
					t.Fatalf("constraint %d of %s has another one's term", i, showAll(p))
				}
			}
		}
	}
}
