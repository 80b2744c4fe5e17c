package cnf

import (
	"fmt"
	"math"
	"slices"
	"testing"

	"attest/api"
	"attest/clause"
	"attest/logic"
)

func lit(atom int) logic.F { return logic.F{Kind: logic.Lit, Atom: atom} }

func not(f logic.F) logic.F { return logic.F{Kind: logic.Not, Sub: []logic.F{f}} }

func and(sub ...logic.F) logic.F { return logic.F{Kind: logic.And, Sub: sub} }

func or(sub ...logic.F) logic.F { return logic.F{Kind: logic.Or, Sub: sub} }

func yes() logic.F { return logic.F{Kind: logic.True} }

func no() logic.F { return logic.F{Kind: logic.False} }

// nots: a formula within so many Nots.
func nots(count int, f logic.F) logic.F {
	for range count {
		f = not(f)
	}
	return f
}

// turns: so many Lits, of the atoms 0 to n - 1 in turn.
func turns(count, n int) []logic.F {
	out := make([]logic.F, count)
	for i := range out {
		out[i] = lit(i % n)
	}
	return out
}

// some: a row of numbers put together at haphazard, the same ones each time.
type some uint64

// below: the next number, from 0 to n - 1.
func (s *some) below(n int) int {
	*s = *s*6364136223846793005 + 1442695040888963407
	return int(uint64(*s)>>33) % n
}

// formula: one in form over some atoms, with Atom set wherever it has no meaning.
func (s *some) formula(atoms, deep int) logic.F {
	f := logic.F{Kind: []int{1, 1, 2, 2, 3, 3, 3, 4, 4, 4, 5, 6}[s.below(12)], Atom: s.below(9) - 4}
	if deep == 0 && f.Kind < 5 {
		f.Kind = 1
	}
	subs := 0
	switch f.Kind {
	case 1:
		f.Atom = s.below(atoms)
	case 2:
		subs = 1
	case 3, 4:
		subs = s.below(4)
	}
	for range subs {
		f.Sub = append(f.Sub, s.formula(atoms, deep-1))
	}
	return f
}

// small: every formula over two atoms of at most three nodes within one another and two Subs a node.
func small() []logic.F {
	out := []logic.F{lit(0), lit(1), yes(), no()}
	for range 2 {
		next := []logic.F{lit(0), lit(1), yes(), no(), and(), or()}
		for _, a := range out {
			next = append(next, not(a), and(a), or(a))
			for _, b := range out {
				next = append(next, and(a, b), or(a, b))
			}
		}
		out = next
	}
	return out
}

// formulas: all small ones, and greater ones over four atoms.
func formulas() []logic.F {
	out, s := small(), some(3)
	for range 3000 {
		out = append(out, s.formula(4, 1+s.below(5)))
	}
	return out
}

// choices: every list of so many truths.
func choices(n int) [][]bool {
	var out [][]bool
	for bits := range 1 << n {
		vals := make([]bool, n)
		for i := range vals {
			vals[i] = bits>>i&1 == 1
		}
		out = append(out, vals)
	}
	return out
}

// truth: what a formula in form says.
func truth(f logic.F, vals []bool) bool {
	isTrue := func(sub logic.F) bool { return truth(sub, vals) }
	isFalse := func(sub logic.F) bool { return !truth(sub, vals) }
	switch f.Kind {
	case 1:
		return vals[f.Atom]
	case 2:
		return isFalse(f.Sub[0])
	case 3:
		return !slices.ContainsFunc(f.Sub, isFalse)
	case 4:
		return slices.ContainsFunc(f.Sub, isTrue)
	}
	return f.Kind == 5
}

// made is the nodes of a formula as chapters 10 and 11 say them, found by going through all that there are.
type made [][3]int

func (m *made) find(n [3]int) int {
	if at := slices.Index(*m, n); at >= 0 {
		return at
	}
	*m = append(*m, n)
	return len(*m) - 1
}

func (m *made) not(a int) int {
	switch n := (*m)[a]; {
	case a < 2:
		return 1 - a
	case n[0] == 4:
		return n[1]
	}
	return m.find([3]int{4, a, 0})
}

// both: And of two, or Or of them; unit is what changes nothing, the other simple node what is stronger than all.
func (m *made) both(kind, unit, a, b int) int {
	opposite := (*m)[a] == [3]int{4, b, 0} || (*m)[b] == [3]int{4, a, 0}
	switch {
	case a == 1-unit || b == 1-unit || opposite:
		return 1 - unit
	case a == unit || a == b:
		return b
	case b == unit:
		return a
	}
	return m.find([3]int{kind, min(a, b), max(a, b)})
}

func (m *made) number(f logic.F) int {
	switch f.Kind {
	case 1:
		return m.find([3]int{3, f.Atom, 0})
	case 2:
		return m.not(m.number(f.Sub[0]))
	case 3:
		out := 1
		for _, sub := range f.Sub {
			out = m.both(5, 1, out, m.number(sub))
		}
		return out
	case 4:
		out := 0
		for _, sub := range f.Sub {
			out = m.both(6, 0, out, m.number(sub))
		}
		return out
	}
	return 6 - f.Kind
}

// stands: does root stand on node i, or is it that?
func (m made) stands(root, i int) bool {
	n := m[root]
	return root == i || n[0] > 3 && m.stands(n[1], i) || n[0] > 4 && m.stands(n[2], i)
}

// judge is a formula's nodes, and its parts' numbers.
type judge struct {
	nodes made
	root  int
	parts []int
}

func judgeOf(f logic.F) judge {
	j := judge{nodes: made{{1, 0, 0}, {2, 0, 0}}}
	j.root = j.nodes.number(f)
	for i, n := range j.nodes {
		if n[0] > 4 && j.nodes.stands(j.root, i) {
			j.parts = append(j.parts, i)
		}
	}
	return j
}

func (j judge) literal(i int) int {
	switch n := j.nodes[i]; n[0] {
	case 3:
		return len(j.parts) + 1 + n[1]
	case 4:
		return -j.literal(n[1])
	}
	return slices.Index(j.parts, i) + 1
}

// ordered: a clause by rising variables.
func ordered(l ...int) []int {
	slices.SortFunc(l, func(a, b int) int { return max(a, -a) - max(b, -b) })
	return l
}

// clauses: those that Clausify should answer.
func (j judge) clauses() [][]int {
	var out [][]int
	for i, part := range j.parts {
		n, d := j.nodes[part], i+1
		a, b := j.literal(n[1]), j.literal(n[2])
		if n[0] == 5 {
			out = append(out, ordered(-d, a), ordered(-d, b), ordered(d, -a, -b))
		} else {
			out = append(out, ordered(d, -a), ordered(d, -b), ordered(-d, a, b))
		}
	}
	switch j.root {
	case 0:
		return append(out, nil)
	case 1:
		return out
	}
	return append(out, []int{j.literal(j.root)})
}

// truths: what Extend should answer.
func (j judge) truths(vals []bool) []bool {
	var is func(i int) bool
	is = func(i int) bool {
		switch n := j.nodes[i]; n[0] {
		case 3:
			return vals[n[1]]
		case 4:
			return !is(n[1])
		case 5:
			return is(n[1]) && is(n[2])
		default:
			return is(n[1]) || is(n[2])
		}
	}
	var out []bool
	for _, part := range j.parts {
		out = append(out, is(part))
	}
	return append(out, vals...)
}

// alike: are two lists of clauses the same, literal by literal?
func alike(a, b [][]int) bool {
	return slices.EqualFunc(a, b, slices.Equal[[]int])
}

// hold: do all clauses hold, where variable v is vals[v - 1]?
func hold(clauses [][]int, vals []bool) bool {
	for _, c := range clauses {
		if !slices.ContainsFunc(c, func(l int) bool { return vals[max(l, -l)-1] == (l > 0) }) {
			return false
		}
	}
	return true
}

func TestClausifyAndExtend(t *testing.T) {
	for _, f := range formulas() {
		j := judgeOf(f)
		got, e := Clausify(f, 4)
		if e != api.OK || got.New != len(j.parts) || !alike(got.Clauses, j.clauses()) {
			t.Fatalf("Clausify(%v) = %v, %d, not %d, %v", f, got, e, len(j.parts), j.clauses())
		}
		for _, vals := range choices(4) {
			if got, e := Extend(f, vals); e != api.OK || !slices.Equal(got, j.truths(vals)) {
				t.Fatalf("Extend(%v, %v) = %v, %d, not %v", f, vals, got, e, j.truths(vals))
			}
		}
	}
}

// TestClausesAreCanonical: none has a literal twice, or beside its opposite.
func TestClausesAreCanonical(t *testing.T) {
	for _, f := range formulas() {
		got, _ := Clausify(f, 4)
		for i, c := range got.Clauses {
			canon, e := clause.Canon(c)
			always, _ := clause.Always(c)
			if e != api.OK || !slices.Equal(c, canon) || always {
				t.Fatalf("clause %d of %v: %v", i, f, c)
			}
			if want := 2 + i%3/2; i < 3*got.New && len(c) != want || i >= 3*got.New && (len(c) > 1 || i > 3*got.New) {
				t.Fatalf("clause %d of %v has %d literals", i, f, len(c))
			}
		}
	}
}

// TestExtendHolds: at what it answers all clauses but the last one hold, and that one just if the formula is true.
func TestExtendHolds(t *testing.T) {
	simple := map[bool]int{}
	for _, f := range formulas() {
		c, _ := Clausify(f, 4)
		ahead, last := c.Clauses[:3*c.New], c.Clauses[3*c.New:]
		for _, vals := range choices(4) {
			all, _ := Extend(f, vals)
			if len(all) != c.New+4 || !slices.Equal(all[c.New:], vals) || !hold(ahead, all) || hold(last, all) != truth(f, vals) {
				t.Fatalf("Extend(%v, %v) = %v", f, vals, all)
			}
		}
		if len(last) == 0 || len(last[0]) == 0 {
			simple[len(last) == 0]++
		}
	}
	if simple[true] < 100 || simple[false] < 100 {
		t.Errorf("few simple formulas: %v", simple)
	}
}

// TestWhereClausesHold: at all truths of all variables: where all clauses hold, the formula is true, and the parts' truths are Extend's.
func TestWhereClausesHold(t *testing.T) {
	looked, held := 0, 0
	for _, f := range formulas() {
		c, _ := Clausify(f, 4)
		if c.New > 5 {
			continue
		}
		looked++
		for _, all := range choices(c.New + 4) {
			if !hold(c.Clauses, all) {
				continue
			}
			held++
			vals := all[c.New:]
			if extended, _ := Extend(f, vals); !truth(f, vals) || !slices.Equal(extended, all) {
				t.Fatalf("the clauses of %v hold at %v", f, all)
			}
		}
	}
	if looked < 2000 || held < 10000 {
		t.Errorf("%d formulas, %d truths", looked, held)
	}
}

// TestForms: formulas of each form over two atoms, a and b; where there is no part a is 1 and b 2.
func TestForms(t *testing.T) {
	a, b := lit(0), lit(1)
	ab, aorb := and(a, b), or(a, b)
	conj, disj := [][]int{{-1, 2}, {-1, 3}, {1, -2, -3}}, [][]int{{1, -2}, {1, -3}, {-1, 2, 3}}
	with := func(l [][]int, more ...[]int) [][]int { return append(slices.Clone(l), more...) }
	for _, c := range []struct {
		f    logic.F
		new  int
		want [][]int
	}{
		{yes(), 0, nil}, {and(), 0, nil}, {not(no()), 0, nil}, {not(or()), 0, nil}, {or(a, not(a)), 0, nil}, {or(not(a), a), 0, nil}, {or(a, yes()), 0, nil}, {or(yes(), a), 0, nil}, {or(a, b, not(a), b, yes()), 0, nil}, {and(yes(), yes()), 0, nil},
		{no(), 0, [][]int{{}}}, {or(), 0, [][]int{{}}}, {not(yes()), 0, [][]int{{}}}, {not(and()), 0, [][]int{{}}}, {and(a, not(a)), 0, [][]int{{}}}, {and(not(a), a), 0, [][]int{{}}}, {and(a, no()), 0, [][]int{{}}}, {and(no(), b), 0, [][]int{{}}}, {or(no(), no()), 0, [][]int{{}}},
		{a, 0, [][]int{{1}}}, {b, 0, [][]int{{2}}}, {not(a), 0, [][]int{{-1}}}, {not(b), 0, [][]int{{-2}}}, {not(not(a)), 0, [][]int{{1}}}, {nots(3, b), 0, [][]int{{-2}}}, {nots(198, b), 0, [][]int{{2}}}, {and(a), 0, [][]int{{1}}}, {or(b), 0, [][]int{{2}}}, {or(a, a), 0, [][]int{{1}}}, {and(b, b, b), 0, [][]int{{2}}},
		{and(yes(), a), 0, [][]int{{1}}}, {or(no(), not(a)), 0, [][]int{{-1}}}, {and(not(a), not(a)), 0, [][]int{{-1}}}, {and(or(), or(a, b)), 0, [][]int{{}}}, {or(and(), and(a, b)), 0, nil},
		{ab, 1, with(conj, []int{1})}, {and(b, a), 1, [][]int{{-1, 3}, {-1, 2}, {1, -2, -3}, {1}}}, {aorb, 1, with(disj, []int{1})}, {or(b, a), 1, [][]int{{1, -3}, {1, -2}, {-1, 2, 3}, {1}}}, {not(ab), 1, with(conj, []int{-1})}, {not(aorb), 1, with(disj, []int{-1})}, {nots(2, ab), 1, with(conj, []int{1})}, {nots(3, aorb), 1, with(disj, []int{-1})},
		{and(a, not(b)), 1, [][]int{{-1, 2}, {-1, -3}, {1, -2, 3}, {1}}}, {or(a, not(b)), 1, [][]int{{1, -2}, {1, 3}, {-1, 2, -3}, {1}}}, {or(not(a), not(b)), 1, [][]int{{1, 2}, {1, 3}, {-1, -2, -3}, {1}}}, {and(not(a), not(b)), 1, [][]int{{-1, -2}, {-1, -3}, {1, 2, 3}, {1}}},
		{and(ab, ab), 1, with(conj, []int{1})}, {or(ab, and(b, a), ab), 1, with(conj, []int{1})}, {and(ab, not(ab)), 0, [][]int{{}}}, {or(not(aorb), aorb), 0, nil}, {and(no(), ab), 0, [][]int{{}}}, {or(aorb, yes()), 0, nil}, {and(a, not(a), aorb), 0, [][]int{{}}},
		{or(ab, not(aorb)), 3, [][]int{{-1, 4}, {-1, 5}, {1, -4, -5}, {2, -4}, {2, -5}, {-2, 4, 5}, {-1, 3}, {2, 3}, {1, -2, -3}, {3}}},
		{and(aorb, not(ab)), 3, [][]int{{1, -4}, {1, -5}, {-1, 4, 5}, {-2, 4}, {-2, 5}, {2, -4, -5}, {1, -3}, {-2, -3}, {-1, 2, 3}, {3}}},
		{and(a, b, aorb), 3, [][]int{{-1, 4}, {-1, 5}, {1, -4, -5}, {2, -4}, {2, -5}, {-2, 4, 5}, {1, -3}, {2, -3}, {-1, -2, 3}, {3}}},
		{and(aorb, not(a), a), 3, [][]int{{1, -4}, {1, -5}, {-1, 4, 5}, {1, -2}, {-2, -4}, {-1, 2, 4}, {-3, 4}, {2, -3}, {-2, 3, -4}, {3}}},
		{and(or(and(a, b), not(a)), no(), b), 0, [][]int{{}}}, {or(and(ab, no()), b), 0, [][]int{{2}}}, {and(or(ab, yes()), aorb), 1, with(disj, []int{1})}, {and(or(aorb, yes()), not(ab)), 1, with(conj, []int{-1})},
	} {
		if got, e := Clausify(c.f, 2); e != api.OK || got.New != c.new || !alike(got.Clauses, c.want) {
			t.Errorf("Clausify(%v) = %v, %d, not %d, %v", c.f, got, e, c.new, c.want)
		}
	}
}

// TestAtomsNotSpokenOf: they have their variables too, but no clause.
func TestAtomsNotSpokenOf(t *testing.T) {
	f := or(and(lit(1), lit(4)), not(lit(1)))
	want := [][]int{{-1, 4}, {-1, 7}, {1, -4, -7}, {-1, 2}, {2, 4}, {1, -2, -4}, {2}}
	for _, atoms := range []int{5, 6, 1000, math.MaxInt} {
		if got, e := Clausify(f, atoms); e != api.OK || got.New != 2 || !alike(got.Clauses, want) {
			t.Errorf("over %d atoms: %v, %d", atoms, got, e)
		}
	}
	for _, count := range []int{5, 6, 1000} {
		vals := make([]bool, count)
		vals[1], vals[count-1] = true, true
		want := append([]bool{vals[4], vals[4]}, vals...)
		if got, e := Extend(f, vals); e != api.OK || !slices.Equal(got, want) {
			t.Errorf("%d truths: %d, %d", count, len(got), e)
		}
	}
	for _, f := range []logic.F{yes(), no(), and(), or(), and(yes(), not(no()))} {
		for _, atoms := range []int{0, 1, -1, math.MinInt, math.MaxInt} {
			if got, e := Clausify(f, atoms); e != api.OK || got.New != 0 || !alike(got.Clauses, judgeOf(f).clauses()) {
				t.Errorf("Clausify(%v, %d) = %v, %d", f, atoms, got, e)
			}
		}
		for _, vals := range [][]bool{nil, {}, {true}, {false, true}} {
			if got, e := Extend(f, vals); e != api.OK || !slices.Equal(got, vals) {
				t.Errorf("Extend(%v, %v) = %v, %d", f, vals, got, e)
			}
		}
	}
}

// refused: is that the error, and nothing beside it?
func refused(t *testing.T, name string, f logic.F, atoms int, want api.Errno) {
	t.Helper()
	if e := logic.Check(f, atoms); e != want {
		t.Errorf("%s: Check says %d, not %d", name, e, want)
	}
	if got, e := Clausify(f, atoms); e != want || got.New != 0 || len(got.Clauses) != 0 {
		t.Errorf("Clausify of %s: %d, %v, %d, not %d", name, got.New, got.Clauses, e, want)
	}
	if atoms > 30000 {
		return
	}
	if got, e := Extend(f, make([]bool, max(atoms, 0))); e != want || len(got) != 0 {
		t.Errorf("Extend of %s: %v, %d, not %d", name, got, e, want)
	}
}

// endless: a node whose Subs are that node itself, so many times.
func endless(kind, times int) logic.F {
	sub := make([]logic.F, times)
	for i := range sub {
		sub[i] = logic.F{Kind: kind, Sub: sub}
	}
	return logic.F{Kind: kind, Sub: sub}
}

func TestErrors(t *testing.T) {
	a := lit(0)
	two := []logic.F{a, a}
	for _, f := range []logic.F{{}, {Kind: 7}, {Kind: -1}, {Kind: math.MinInt}, {Kind: math.MaxInt}, {Kind: 2}, {Kind: 2, Sub: two}, {Kind: 1, Sub: two}, {Kind: 5, Sub: two}, {Kind: 6, Sub: two[:1]}, {Kind: 1 << 32, Sub: two}} {
		refused(t, fmt.Sprint("kind ", f.Kind), f, 1, api.ErrForm)
		refused(t, fmt.Sprint("a Not of kind ", f.Kind), not(f), 1, api.ErrForm)
		refused(t, fmt.Sprint("kind ", f.Kind, " behind False"), and(no(), f), 1, api.ErrForm)
		refused(t, fmt.Sprint("kind ", f.Kind, " ahead of True"), or(f, yes()), 1, api.ErrForm)
		refused(t, fmt.Sprint("kind ", f.Kind, " and too great"), and(f, nots(199, a)), 1, api.ErrBig)
		refused(t, fmt.Sprint("kind ", f.Kind, " and too many"), or(append(turns(20000, 1), f)...), 1, api.ErrBig)
	}
	for _, times := range []int{1, 2, 30000} {
		refused(t, "an endless one", endless(3, times), 1, api.ErrBig)
		refused(t, "an endless wrong one", endless(9, times), 1, api.ErrBig)
	}
	for _, n := range []int{1, 2, 3, 1000, math.MaxInt} {
		for _, atom := range []int{-1, math.MinInt, n} {
			refused(t, fmt.Sprint("atom ", atom, " of ", n), lit(atom), n, api.ErrForm)
			refused(t, fmt.Sprint("not atom ", atom, " of ", n), not(lit(atom)), n, api.ErrForm)
			refused(t, fmt.Sprint("with atom ", atom, " of ", n), or(yes(), and(a, lit(atom))), n, api.ErrForm)
		}
	}
	for _, n := range []int{0, -1, -2, math.MinInt} {
		for _, atom := range []int{0, 1, -1, n, n - 1} {
			refused(t, fmt.Sprint("atom ", atom, " of ", n), lit(atom), n, api.ErrForm)
		}
	}
}

// TestTruthsOfExtend: as many as the formula's atoms, more of them, fewer and none.
func TestTruthsOfExtend(t *testing.T) {
	f := and(lit(0), not(lit(3)))
	for count := range 10 {
		vals := make([]bool, count)
		for i := range vals {
			vals[i] = i != 3
		}
		got, e := Extend(f, vals)
		switch {
		case count < 4 && (e != api.ErrForm || len(got) != 0):
			t.Errorf("%d truths: %v, %d", count, got, e)
		case count > 3 && (e != api.OK || !slices.Equal(got, append([]bool{true}, vals...))):
			t.Errorf("%d truths: %v, %d", count, got, e)
		}
	}
}

// TestGreatAtoms: the variables reach up to the greatest int; what would be above it is too great.
func TestGreatAtoms(t *testing.T) {
	last := lit(math.MaxInt - 1)
	for _, c := range []struct {
		f    logic.F
		new  int
		want [][]int
	}{
		{last, 0, [][]int{{math.MaxInt}}}, {not(last), 0, [][]int{{-math.MaxInt}}}, {and(last, no()), 0, [][]int{{}}}, {or(and(last, lit(3)), lit(2), yes()), 0, nil}, {or(and(no(), last, lit(0)), lit(4)), 0, [][]int{{5}}},
		{and(lit(0), lit(math.MaxInt-2)), 1, [][]int{{-1, 2}, {-1, math.MaxInt}, {1, -2, -math.MaxInt}, {1}}}, {or(not(lit(math.MaxInt-2)), lit(0)), 1, [][]int{{1, math.MaxInt}, {1, -2}, {-1, 2, -math.MaxInt}, {1}}},
	} {
		if got, e := Clausify(c.f, math.MaxInt); e != api.OK || got.New != c.new || !alike(got.Clauses, c.want) {
			t.Errorf("Clausify(%v) = %v, %d", c.f, got, e)
		}
	}
	for _, f := range []logic.F{and(last, lit(0)), or(not(last), lit(1)), and(lit(0), lit(1), lit(math.MaxInt-2)), not(or(last, lit(math.MaxInt-2)))} {
		if got, e := Clausify(f, math.MaxInt); e != api.ErrBig || got.New != 0 || len(got.Clauses) != 0 {
			t.Errorf("Clausify(%v) = %v, %d", f, got, e)
		}
	}
}

// right: does Clausify answer so many parts, and clauses that fit Extend where f is true and where it is false?
func right(t *testing.T, name string, f logic.F, atoms, parts int) {
	t.Helper()
	got, e := Clausify(f, atoms)
	if e != api.OK || got.New != parts || len(got.Clauses) < 3*parts {
		t.Errorf("%s: %d parts, %d clauses, %d", name, got.New, len(got.Clauses), e)
		return
	}
	s := some(5)
	for range 4 {
		vals := make([]bool, atoms)
		for i := range vals {
			vals[i] = s.below(2) == 0
		}
		all, e := Extend(f, vals)
		if e != api.OK || len(all) != parts+atoms || !hold(got.Clauses[:3*parts], all) || hold(got.Clauses[3*parts:], all) != truth(f, vals) {
			t.Errorf("%s: other truths", name)
		}
	}
}

// TestLimits: formulas of as many nodes, and as deep, as may be, and of one more.
func TestLimits(t *testing.T) {
	if api.MaxNodes != 20000 || api.MaxDepth != 200 {
		t.Error("other limits")
	}
	a := lit(0)
	right(t, "20000 nodes of one atom", and(turns(19999, 1)...), 1, 0)
	refused(t, "20001 nodes of one atom", and(turns(20000, 1)...), 1, api.ErrBig)
	right(t, "20000 nodes in two", or(and(turns(9998, 1)...), or(turns(9999, 1)...)), 1, 0)
	refused(t, "20001 nodes in two", or(and(turns(9999, 1)...), or(turns(9999, 1)...)), 1, api.ErrBig)
	right(t, "199 Nots", nots(199, a), 1, 0)
	refused(t, "200 Nots", nots(200, a), 1, api.ErrBig)
	deep := func(n int) logic.F {
		f := lit(0)
		for i := range n - 1 {
			f = []logic.F{and(f, lit(1)), or(f, lit(2))}[i%2]
		}
		return f
	}
	right(t, "200 deep", deep(200), 3, 199)
	refused(t, "201 deep", deep(201), 3, api.ErrBig)
	right(t, "6666 atoms twice", and(or(turns(6666, 6666)...), and(turns(6666, 6666)...)), 6666, 2*6665+1)
}

// TestFullTables: a formula in form may ask for more nodes than a table has; then it is too great, as layer 11 says.
func TestFullTables(t *testing.T) {
	right(t, "as many nodes as a table has", and(turns(19997, 2)...), 2, 19996)
	right(t, "as many nodes as a table has, all atoms unlike", or(turns(9999, 9999)...), 9999, 9998)
	right(t, "the last one simply true", or(append(turns(19997, 2), yes())...), 2, 0)
	for _, f := range []logic.F{and(turns(19998, 2)...), or(turns(19999, 3)...), and(turns(10000, 10000)...), or(turns(19999, 19999)...)} {
		if e := logic.Check(f, 20000); e != api.OK {
			t.Fatalf("Check: %d", e)
		}
		if got, e := Clausify(f, 20000); e != api.ErrBig || got.New != 0 || len(got.Clauses) != 0 {
			t.Errorf("%d Lits: %d parts, %d", len(f.Sub), got.New, e)
		}
		if got, e := Extend(f, make([]bool, 20000)); e != api.ErrBig || len(got) != 0 {
			t.Errorf("%d Lits: %d truths, %d", len(f.Sub), len(got), e)
		}
	}
}

// told: a formula with the room behind its lists, as text.
func told(f logic.F) string {
	out := fmt.Sprint("(", f.Kind, " ", f.Atom)
	for _, sub := range f.Sub[:cap(f.Sub)] {
		out += told(sub)
	}
	return out + ")"
}

// roomy: the same formula in new memory, each list with room behind it.
func roomy(f logic.F) logic.F {
	out := logic.F{Kind: f.Kind, Atom: f.Atom}
	for _, sub := range f.Sub {
		out.Sub = append(out.Sub, roomy(sub))
	}
	out.Sub = append(out.Sub, lit(77), lit(78))[:len(out.Sub)]
	return out
}

// spoil writes into all memory of a formula.
func spoil(f logic.F) {
	for i, sub := range f.Sub {
		spoil(sub)
		f.Sub[i] = lit(99)
	}
}

func fill[T any](l []T, with T) {
	l = l[:cap(l)]
	for i := range l {
		l[i] = with
	}
}

func TestNothingIsChanged(t *testing.T) {
	s := some(7)
	for range 2000 {
		f := roomy(s.formula(4, 3))
		vals := []bool{true, false, true, false, true, true}[:s.below(6)]
		before, truths := told(f), fmt.Sprint(vals[:cap(vals)])
		c, _ := Clausify(f, len(vals))
		for _, l := range c.Clauses {
			fill(l, 99)
		}
		all, _ := Extend(f, vals)
		for i := range all {
			all[i] = !all[i]
		}
		if told(f) != before || fmt.Sprint(vals[:cap(vals)]) != truths {
			t.Fatalf("%s is changed: %s", before, told(f))
		}
	}
}

// TestAnswersAreNew: what is done to an answer is nothing to what was handed in, nor to another answer; nor the other way.
func TestAnswersAreNew(t *testing.T) {
	s := some(9)
	for range 2000 {
		f := s.formula(4, 3)
		j, vals := judgeOf(f), []bool{s.below(2) == 0, true, false, s.below(2) == 0}
		truths := j.truths(vals)
		c1, _ := Clausify(f, 4)
		c2, _ := Clausify(f, 4)
		e1, _ := Extend(f, vals)
		e2, _ := Extend(f, vals)
		for _, l := range c1.Clauses {
			fill(l, 99)
		}
		fill(c1.Clauses, []int{99})
		fill(e1, true)
		c3, _ := Clausify(f, 4)
		spoil(f)
		fill(vals, false)
		if !alike(c2.Clauses, j.clauses()) || !alike(c3.Clauses, j.clauses()) || !slices.Equal(e2, truths) {
			t.Fatalf("an answer is shared: %v, %v, %v", c2, c3, e2)
		}
	}
}

// TestListsOfAnAnswerAreApart: each may be written and made longer without another one's being changed.
func TestListsOfAnAnswerAreApart(t *testing.T) {
	for _, f := range formulas() {
		c, _ := Clausify(f, 4)
		for i, l := range c.Clauses {
			fill(l[:len(l)], i)
			c.Clauses[i] = append(l, i)
		}
		for i, l := range c.Clauses {
			if slices.ContainsFunc(l, func(x int) bool { return x != i }) {
				t.Fatalf("clause %d of %v is another one's", i, f)
			}
		}
	}
}

// TestExamples: those of the chapter.
func TestExamples(t *testing.T) {
	a, b := lit(0), lit(1)
	f := and(a, not(b))
	for _, c := range []struct {
		f    logic.F
		new  int
		want [][]int
	}{
		{f, 1, [][]int{{-1, 2}, {-1, -3}, {1, -2, 3}, {1}}}, {or(a, a), 0, [][]int{{1}}}, {not(a), 0, [][]int{{-1}}}, {and(a, not(a)), 0, [][]int{{}}}, {or(), 0, [][]int{{}}}, {and(), 0, nil},
	} {
		if got, e := Clausify(c.f, 2); e != api.OK || got.New != c.new || !alike(got.Clauses, c.want) {
			t.Errorf("Clausify(%v) = %v, %d", c.f, got, e)
		}
	}
	if got, e := Extend(f, []bool{true, true}); e != api.OK || !slices.Equal(got, []bool{false, true, true}) {
		t.Errorf("Extend = %v, %d", got, e)
	}
}
