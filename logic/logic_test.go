package logic

import (
	"maps"
	"math"
	"slices"
	"testing"

	"attest/api"
	"attest/intern"
)

func lit(atom int) F { return F{Kind: Lit, Atom: atom} }

func not(sub ...F) F { return F{Kind: Not, Sub: sub} }

func and(sub ...F) F { return F{Kind: And, Sub: sub} }

func or(sub ...F) F { return F{Kind: Or, Sub: sub} }

func yes() F { return F{Kind: True} }

func no() F { return F{Kind: False} }

// nots: a formula within so many Nots.
func nots(count int, f F) F {
	for range count {
		f = not(f)
	}
	return f
}

// chain: so many nodes within one another, the innermost one of them f.
func chain(deep int, kind int, f F) F {
	for range deep - 1 {
		f = F{Kind: kind, Sub: []F{f}}
	}
	return f
}

// many: so many times the same.
func many(count int, f F) []F {
	return slices.Repeat([]F{f}, count)
}

// lits: so many Lits, each of another atom.
func lits(count int) []F {
	out := make([]F, count)
	for i := range out {
		out[i] = lit(i)
	}
	return out
}

// endless: a node whose Subs are that node itself, so many times.
func endless(kind, times int) F {
	sub := make([]F, times)
	for i := range sub {
		sub[i] = F{Kind: kind, Sub: sub}
	}
	return F{Kind: kind, Sub: sub}
}

// same: are two formulas the same, node by node, a list that is nil like an empty one?
func same(a, b F) bool {
	return a.Kind == b.Kind && a.Atom == b.Atom && slices.EqualFunc(a.Sub, b.Sub, same)
}

// deepCopy: the same formula in new memory.
func deepCopy(f F) F {
	out := f
	out.Sub = nil
	for _, sub := range f.Sub {
		out.Sub = append(out.Sub, deepCopy(sub))
	}
	return out
}

// meant: what a formula in form says, as 1 or 0: And the least and Or the greatest of its parts.
func meant(f F, vals []bool) int {
	switch f.Kind {
	case Lit:
		if vals[f.Atom] {
			return 1
		}
		return 0
	case Not:
		return 1 - meant(f.Sub[0], vals)
	case And:
		out := 1
		for _, sub := range f.Sub {
			out = min(out, meant(sub, vals))
		}
		return out
	case Or:
		out := 0
		for _, sub := range f.Sub {
			out = max(out, meant(sub, vals))
		}
		return out
	}
	return map[int]int{True: 1, False: 0}[f.Kind]
}

// choices: every list of so many truths.
func choices(n int) [][]bool {
	var out [][]bool
	for bits := range 1 << n {
		vals := make([]bool, n)
		for i := range vals {
			vals[i] = bits>>i&1 == 1
		}
		out = append(out, vals)
	}
	return out
}

// small: every formula over two atoms of at most three nodes within one another and two Subs a node.
func small() []F {
	out := []F{lit(0), lit(1), yes(), no()}
	for range 2 {
		next := []F{lit(0), lit(1), yes(), no(), and(), or()}
		for _, a := range out {
			next = append(next, not(a), and(a), or(a))
			for _, b := range out {
				next = append(next, and(a, b), or(a, b))
			}
		}
		out = next
	}
	return out
}

// some: a row of numbers put together at haphazard, the same ones each time.
type some uint64

// below: the next number, from 0 to n - 1.
func (s *some) below(n int) int {
	*s = *s*6364136223846793005 + 1442695040888963407
	return int(uint64(*s)>>33) % n
}

// formula: one in form over some atoms, with Atom set wherever it has no meaning.
func (s *some) formula(atoms, deep int) F {
	f := F{Kind: []int{Lit, Lit, Not, Not, And, And, And, Or, Or, Or, True, False}[s.below(12)], Atom: s.below(9) - 4}
	if deep == 0 && f.Kind != True && f.Kind != False {
		f.Kind = Lit
	}
	subs := 0
	switch f.Kind {
	case Lit:
		f.Atom = s.below(atoms)
	case Not:
		subs = 1
	case And, Or:
		subs = s.below(5)
	}
	for range subs {
		f.Sub = append(f.Sub, s.formula(atoms, deep-1))
	}
	return f
}

// formulas: all small ones, and greater ones over four atoms.
func formulas() []F {
	out, s := small(), some(11)
	for range 400 {
		out = append(out, s.formula(4, 2+s.below(5)))
	}
	return out
}

func TestNumbersOfNames(t *testing.T) {
	if Lit != 1 || Not != 2 || And != 3 || Or != 4 || True != 5 || False != 6 {
		t.Error("the names' numbers")
	}
	if api.MaxNodes != 20000 || api.MaxDepth != 200 {
		t.Error("other limits")
	}
}

// judged is a formula over so many atoms, and what Check says of it.
type judged struct {
	name  string
	f     F
	atoms int
	want  api.Errno
}

// kinds: formulas of each kind alone and of kinds that there aren't, with as many Subs as they may have and with others.
func kinds() []judged {
	a := lit(0)
	out := []judged{
		{"Lit", a, 1, api.OK}, {"Lit of a Lit", F{Lit, 0, []F{a}}, 1, api.ErrForm}, {"Lit of a True", F{Lit, 0, []F{yes()}}, 1, api.ErrForm},
		{"Not of none", not(), 1, api.ErrForm}, {"Not of one", not(a), 1, api.OK}, {"Not of two", not(a, a), 1, api.ErrForm}, {"Not of three", not(a, a, a), 1, api.ErrForm},
		{"And of none", and(), 0, api.OK}, {"And of one", and(a), 1, api.OK}, {"And of many", and(many(500, a)...), 1, api.OK},
		{"Or of none", or(), 0, api.OK}, {"Or of one", or(a), 1, api.OK}, {"Or of many", or(many(500, a)...), 1, api.OK},
		{"True", yes(), 0, api.OK}, {"True of one", F{True, 0, []F{a}}, 1, api.ErrForm}, {"True of True", F{True, 0, []F{yes()}}, 1, api.ErrForm},
		{"False", no(), 0, api.OK}, {"False of one", F{False, 0, []F{a}}, 1, api.ErrForm}, {"False of two", F{False, 0, []F{no(), no()}}, 1, api.ErrForm},
		{"nothing", F{}, 1, api.ErrForm}, {"an empty list", F{Lit, 0, []F{}}, 1, api.OK}, {"True and an empty list", F{True, 0, make([]F, 0, 5)}, 1, api.OK},
	}
	for _, kind := range []int{0, 7, 8, -1, -2, math.MinInt, math.MaxInt, 1 << 32, 257, 1<<32 + 1} {
		out = append(out, judged{"another kind", F{Kind: kind}, 1, api.ErrForm}, judged{"another kind of one", F{kind, 0, []F{a}}, 1, api.ErrForm})
	}
	return out
}

// atoms: Lits at the edges of what there is, and Atoms that have no meaning.
func atoms() []judged {
	var out []judged
	for _, n := range []int{1, 2, 3, 1000, math.MaxInt} {
		out = append(out, judged{"-1", lit(-1), n, api.ErrForm}, judged{"least", lit(math.MinInt), n, api.ErrForm}, judged{"0", lit(0), n, api.OK},
			judged{"n - 1", lit(n - 1), n, api.OK}, judged{"n", lit(n), n, api.ErrForm})
	}
	for _, n := range []int{0, -1, -2, math.MinInt} {
		out = append(out, judged{"no atoms: 0", lit(0), n, api.ErrForm}, judged{"no atoms: -1", lit(-1), n, api.ErrForm}, judged{"no atoms: n", lit(n), n, api.ErrForm},
			judged{"no atoms: n - 1", lit(n - 1), n, api.ErrForm}, judged{"no atoms and no Lit", or(and(), not(yes()), no()), n, api.OK})
	}
	for _, atom := range []int{-1, 1, 7, math.MinInt, math.MaxInt} {
		for _, f := range []F{{Not, atom, []F{lit(0)}}, {And, atom, nil}, {Or, atom, []F{lit(0), lit(0)}}, {True, atom, nil}, {False, atom, nil}} {
			out = append(out, judged{"an Atom without meaning", f, 1, api.OK})
		}
	}
	return out
}

// edges: formulas about as great as they may be, wrong nodes deep inside, and both together.
func edges() []judged {
	a := lit(0)
	wide := func(nodes int, last F) F { return and(append(many(nodes-2, a), last)...) }
	out := []judged{
		{"20000 nodes", wide(20000, a), 1, api.OK}, {"20001 nodes", wide(20001, a), 1, api.ErrBig}, {"20002 nodes", wide(20002, a), 1, api.ErrBig},
		{"30000 nodes in two", or(wide(15000, a), wide(15000, a)), 1, api.ErrBig}, {"20000 nodes in two", or(wide(10000, a), wide(9999, a)), 1, api.OK},
		{"20001 nodes in two", or(wide(10000, a), wide(10000, a)), 1, api.ErrBig}, {"a million nodes", or(many(999999, a)...), 1, api.ErrBig},
		{"20000 nodes, the last one wrong", wide(20000, lit(1)), 1, api.ErrForm}, {"20001 nodes, the last one wrong", wide(20001, lit(1)), 1, api.ErrBig},
		{"20001 nodes, the first one wrong", F{Kind: 7, Sub: many(20000, a)}, 1, api.ErrBig}, {"a Lit of 20000", F{Lit, 0, many(20000, a)}, 1, api.ErrBig},
		{"a Lit of 19999", F{Lit, 0, many(19999, a)}, 1, api.ErrForm}, {"a True of 20000", F{True, 0, many(20000, a)}, 1, api.ErrBig},
		{"a Not of 20000", not(many(20000, a)...), 1, api.ErrBig}, {"a Not of 19999", not(many(19999, a)...), 1, api.ErrForm},
		{"199 Nots", nots(199, a), 1, api.OK}, {"200 Nots", nots(200, a), 1, api.ErrBig}, {"201 Nots", nots(201, a), 2, api.ErrBig},
		{"199 Nots of a wrong one", nots(199, lit(1)), 1, api.ErrForm}, {"200 Nots of a wrong one", nots(200, lit(1)), 1, api.ErrBig},
		{"a wrong one deep among others", and(a, or(a, nots(150, and(a, a, not(), a)), a), a), 1, api.ErrForm},
		{"a Lit of no atom deep among others", and(a, or(a, nots(150, and(a, a, lit(1), a)), a), a), 1, api.ErrForm},
		{"a wrong one ahead of what is too deep", and(lit(5), nots(200, a)), 1, api.ErrBig}, {"a wrong one behind it", and(nots(200, a), lit(5)), 1, api.ErrBig},
		{"200 deep twice", or(nots(198, a), nots(198, a)), 1, api.OK}, {"201 deep, the second time", or(nots(198, a), nots(199, a)), 1, api.ErrBig},
		{"a Lit in a wrong Lit too deep", chain(201, Lit, a), 1, api.ErrBig}, {"in form but for Lits of Lits", chain(200, Lit, a), 1, api.ErrForm},
	}
	for _, kind := range []int{And, Or} {
		out = append(out, judged{"200 deep", chain(200, kind, a), 1, api.OK}, judged{"201 deep", chain(201, kind, a), 1, api.ErrBig},
			judged{"200 deep, of none", chain(200, kind, F{Kind: kind}), 0, api.OK}, judged{"201 deep, of none", chain(201, kind, F{Kind: kind}), 0, api.ErrBig})
	}
	for _, kind := range []int{0, 7, Not, Lit, True} {
		out = append(out, judged{"201 deep and wrong", chain(201, kind, F{}), 0, api.ErrBig}, judged{"far too deep", chain(100000, kind, a), 1, api.ErrBig})
	}
	for _, times := range []int{1, 2, 50, 30000} {
		out = append(out, judged{"endless", endless(And, times), 1, api.ErrBig}, judged{"endless and wrong", endless(Lit, times), 1, api.ErrBig})
	}
	return out
}

func cases() []judged {
	return slices.Concat(kinds(), atoms(), edges())
}

func TestCheck(t *testing.T) {
	for _, c := range cases() {
		if got := Check(c.f, c.atoms); got != c.want {
			t.Errorf("%s, over %d atoms: %d, not %d", c.name, c.atoms, got, c.want)
		}
	}
	for _, f := range formulas() {
		if got := Check(f, 4); got != api.OK {
			t.Fatalf("Check(%v): %d", f, got)
		}
	}
}

// nodes: how many nodes a formula has.
func nodes(f F) int {
	count := 1
	for _, sub := range f.Sub {
		count += nodes(sub)
	}
	return count
}

// TestSize: what isn't in form has a size too.
func TestSize(t *testing.T) {
	for _, c := range cases() {
		got, e := Size(c.f)
		switch {
		case c.want == api.ErrBig && (got != 0 || e != api.ErrBig):
			t.Errorf("Size of %s: %d, %d", c.name, got, e)
		case c.want != api.ErrBig && (got != nodes(c.f) || e != api.OK):
			t.Errorf("Size of %s: %d, %d, not %d", c.name, got, e, nodes(c.f))
		}
	}
	for _, f := range formulas() {
		if got, e := Size(f); got != nodes(f) || e != api.OK {
			t.Fatalf("Size(%v) = %d, %d", f, got, e)
		}
	}
	told := map[int]F{1: {}, 2: not(lit(-1)), 3: F{9, 9, []F{lit(9), lit(9)}}, 4: and(not(yes()), no()), 200: nots(199, F{}), 20000: or(many(19999, F{})...)}
	for want, f := range told {
		if got, e := Size(f); got != want || e != api.OK {
			t.Errorf("Size = %d, %d, not %d", got, e, want)
		}
	}
}

// TestErrors: each call answers the error of Check, and beside it nothing.
func TestErrors(t *testing.T) {
	for _, c := range cases() {
		if c.want == api.OK {
			continue
		}
		if f, e := Nnf(c.f, c.atoms); e != c.want || !same(f, F{}) {
			t.Errorf("Nnf of %s: %v, %d", c.name, f, e)
		}
		if l, e := Atoms(c.f, c.atoms); e != c.want || len(l) != 0 {
			t.Errorf("Atoms of %s: %v, %d", c.name, l, e)
		}
		if i, l, e := Intern(c.f, c.atoms); e != c.want || i != 0 || len(l) != 0 {
			t.Errorf("Intern of %s: %d, %v, %d", c.name, i, l, e)
		}
		if c.atoms > 5000 {
			continue
		}
		if truth, e := Eval(c.f, slices.Repeat([]bool{true}, max(c.atoms, 0))); e != c.want || truth {
			t.Errorf("Eval of %s: %v, %d", c.name, truth, e)
		}
	}
}

func TestEvalOfEachKind(t *testing.T) {
	a, b := lit(0), lit(1)
	told := []struct {
		f    F
		want [4]bool // where a and b are false, a is true alone, b is, both are
	}{
		{a, [4]bool{false, true, false, true}}, {b, [4]bool{false, false, true, true}}, {not(a), [4]bool{true, false, true, false}},
		{not(not(b)), [4]bool{false, false, true, true}}, {and(), [4]bool{true, true, true, true}}, {or(), [4]bool{}},
		{and(a), [4]bool{false, true, false, true}}, {or(b), [4]bool{false, false, true, true}}, {and(a, b), [4]bool{3: true}},
		{or(a, b), [4]bool{false, true, true, true}}, {and(a, not(b), yes()), [4]bool{1: true}}, {or(no(), not(a), b), [4]bool{true, false, true, true}},
		{yes(), [4]bool{true, true, true, true}}, {no(), [4]bool{}}, {not(and()), [4]bool{}}, {not(or()), [4]bool{true, true, true, true}},
		{and(b, b, a, no()), [4]bool{}}, {or(a, b, yes()), [4]bool{true, true, true, true}}, {F{And, -7, []F{F{Or, 99, []F{a}}}}, [4]bool{false, true, false, true}},
	}
	for _, x := range told {
		for i, vals := range choices(2) {
			if got, e := Eval(x.f, vals); got != x.want[i] || e != api.OK {
				t.Errorf("Eval(%v, %v) = %v, %d", x.f, vals, got, e)
			}
		}
	}
}

func TestEval(t *testing.T) {
	for _, f := range formulas() {
		for _, vals := range choices(4) {
			if got, e := Eval(f, vals); got != (meant(f, vals) == 1) || e != api.OK {
				t.Fatalf("Eval(%v, %v) = %v, %d", f, vals, got, e)
			}
		}
	}
}

// TestEvalCountsTruths: the atoms are as many as the truths.
func TestEvalCountsTruths(t *testing.T) {
	for n := range 5 {
		for atom := -1; atom < 6; atom++ {
			want := api.ErrForm
			if atom >= 0 && atom < n {
				want = api.OK
			}
			got, e := Eval(or(lit(atom), no()), slices.Repeat([]bool{true}, n))
			if e != want || got != (want == api.OK) {
				t.Errorf("atom %d of %d: %v, %d", atom, n, got, e)
			}
		}
	}
	for _, none := range [][]bool{nil, {}, make([]bool, 0, 3)} {
		if got, e := Eval(lit(0), none); got || e != api.ErrForm {
			t.Errorf("a Lit without truths: %v, %d", got, e)
		}
		if got, e := Eval(or(no(), and(), lit(0)), none); got || e != api.ErrForm {
			t.Errorf("a Lit that isn't needed, without truths: %v, %d", got, e)
		}
		if got, e := Eval(and(yes(), not(no()), and()), none); !got || e != api.OK {
			t.Errorf("no Lit and no truths: %v, %d", got, e)
		}
	}
	// The room behind the truths is none of theirs.
	if got, e := Eval(lit(2), []bool{true, true, true}[:2]); got || e != api.ErrForm {
		t.Errorf("a truth behind the list: %v, %d", got, e)
	}
}

// TestEvalOfGreatOnes: as great as may be, the node that settles it at the very end.
func TestEvalOfGreatOnes(t *testing.T) {
	for _, last := range []bool{false, true} {
		vals := []bool{last, true, false}
		for _, c := range []struct {
			f    F
			want bool
		}{
			{and(append(many(19998, lit(1)), lit(0))...), last}, {or(append(many(19998, lit(2)), lit(0))...), last},
			{nots(199, lit(0)), !last}, {nots(198, lit(0)), last}, {chain(200, And, lit(0)), last}, {chain(200, Or, lit(0)), last},
		} {
			if got, e := Eval(c.f, vals); got != c.want || e != api.OK {
				t.Errorf("Eval of a great one: %v, %d", got, e)
			}
		}
	}
}

// plain: the formula with Not at Lits alone, as the document says it; opposite is what Not is put to.
func plain(f F) F {
	switch f.Kind {
	case Not:
		return opposite(f.Sub[0])
	case Lit:
		return lit(f.Atom)
	}
	out := F{Kind: f.Kind}
	for _, sub := range f.Sub {
		out.Sub = append(out.Sub, plain(sub))
	}
	return out
}

func opposite(f F) F {
	switch f.Kind {
	case Not:
		return plain(f.Sub[0])
	case Lit:
		return not(lit(f.Atom))
	}
	out := F{Kind: map[int]int{And: Or, Or: And, True: False, False: True}[f.Kind]}
	for _, sub := range f.Sub {
		out.Sub = append(out.Sub, opposite(sub))
	}
	return out
}

func TestNnfOfEachKind(t *testing.T) {
	a, b := lit(0), lit(1)
	for _, x := range []struct{ f, want F }{
		{not(and(a, not(b))), or(not(a), b)}, {not(yes()), no()}, {not(no()), yes()}, {yes(), yes()}, {no(), no()},
		{a, a}, {not(a), not(a)}, {not(not(a)), a}, {not(not(not(b))), not(b)}, {nots(198, a), a}, {nots(199, a), not(a)},
		{and(), and()}, {or(), or()}, {not(and()), or()}, {not(or()), and()}, {not(not(and())), and()}, {not(not(yes())), yes()},
		{not(or(a, b)), and(not(a), not(b))}, {not(or(a, not(and(b, yes())), no())), and(not(a), and(b, yes()), yes())},
		{and(b, not(or(b, a)), or(not(not(a)))), and(b, and(not(b), not(a)), or(a))}, {not(and(or(and(or(a))))), or(and(or(and(not(a)))))},
		{not(and(and(), or(), b)), or(or(), and(), not(b))}, {and(a, a, b, a), and(a, a, b, a)}, {not(and(a, a, b, a)), or(not(a), not(a), not(b), not(a))},
		{F{And, 5, []F{F{Not, 6, []F{F{True, 7, nil}}}, F{Or, -8, nil}, lit(1), F{False, 9, nil}}}, and(no(), or(), lit(1), no())},
	} {
		if got, e := Nnf(x.f, 2); !same(got, x.want) || e != api.OK {
			t.Errorf("Nnf(%v) = %v, %d, not %v", x.f, got, e, x.want)
		}
	}
}

// tidy: does Not stand at Lits alone, and Atom nowhere else?
func tidy(f F) bool {
	switch {
	case f.Kind == Not:
		return f.Atom == 0 && f.Sub[0].Kind == Lit
	case f.Kind != Lit && f.Atom != 0:
		return false
	}
	return !slices.ContainsFunc(f.Sub, func(sub F) bool { return !tidy(sub) })
}

// TestNnf: it is the formula that is asked for, it is in form, what it answers is answered again, and it is true where f is.
func TestNnf(t *testing.T) {
	for _, f := range formulas() {
		got, e := Nnf(f, 4)
		if e != api.OK || !same(got, plain(f)) || !tidy(got) || Check(got, 4) != api.OK {
			t.Fatalf("Nnf(%v) = %v, %d", f, got, e)
		}
		if again, e := Nnf(got, 4); e != api.OK || !same(again, got) {
			t.Fatalf("Nnf(%v) = %v, %d", got, again, e)
		}
		for _, vals := range choices(4) {
			if truth, _ := Eval(got, vals); truth != (meant(f, vals) == 1) {
				t.Fatalf("Nnf(%v) is %v at %v", f, truth, vals)
			}
		}
	}
}

// TestNnfOfGreatOnes: what is answered may have more nodes than what was asked about.
func TestNnfOfGreatOnes(t *testing.T) {
	got, e := Nnf(not(and(lits(19998)...)), 19998)
	if e != api.OK || got.Kind != Or || len(got.Sub) != 19998 {
		t.Fatalf("%d Subs, %d", len(got.Sub), e)
	}
	for i, sub := range got.Sub {
		if !same(sub, not(lit(i))) {
			t.Fatalf("Sub %d is %v", i, sub)
		}
	}
	if f, e := Nnf(got, 19998); e != api.ErrBig || !same(f, F{}) {
		t.Errorf("again: %d", e)
	}
	deep, e := Nnf(not(chain(199, And, lit(3))), 4)
	if n, _ := Size(deep); e != api.OK || n != 200 || !same(deep, chain(199, Or, not(lit(3)))) {
		t.Errorf("a deep one: %d nodes, %d", n, e)
	}
}

func TestAtoms(t *testing.T) {
	for _, x := range []struct {
		f    F
		n    int
		want []int
	}{
		{yes(), 0, nil}, {no(), 5, nil}, {and(), 0, nil}, {or(and(), not(yes())), 7, nil}, {lit(0), 1, []int{0}}, {not(lit(4)), 5, []int{4}},
		{and(lit(3), lit(1), lit(3)), 4, []int{1, 3}}, {or(lit(2), not(lit(2)), and(lit(2))), 3, []int{2}}, {and(lits(300)...), 300, nil},
		{or(lit(9), not(lit(10)), and(lit(2), or(lit(10), lit(0), yes()))), 11, []int{0, 2, 9, 10}},
		{F{And, 3, []F{F{Not, 2, []F{lit(1)}}, F{True, 4, nil}, F{Or, 0, nil}}}, 5, []int{1}},
		{and(lit(math.MaxInt-1), lit(1<<33), lit(7)), math.MaxInt, []int{7, 1 << 33, math.MaxInt - 1}},
	} {
		if len(x.f.Sub) == 300 {
			for i := range 300 {
				x.want = append(x.want, i)
			}
		}
		if got, e := Atoms(x.f, x.n); !slices.Equal(got, x.want) || e != api.OK {
			t.Errorf("Atoms(%v) = %v, %d", x.f, got, e)
		}
	}
	for _, f := range formulas() {
		set := map[int]bool{}
		gather(f, set)
		if got, e := Atoms(f, 4); !slices.Equal(got, slices.Sorted(maps.Keys(set))) || e != api.OK {
			t.Fatalf("Atoms(%v) = %v, %d", f, got, e)
		}
	}
}

func gather(f F, set map[int]bool) {
	if f.Kind == Lit {
		set[f.Atom] = true
	}
	for _, sub := range f.Sub {
		gather(sub, set)
	}
}

// The two nodes of every table.
var (
	node0 = intern.Node{Kind: intern.False}
	node1 = intern.Node{Kind: intern.True}
)

func variable(v int) intern.Node { return intern.Node{Kind: intern.Var, A: v} }

func node(kind, a, b int) intern.Node { return intern.Node{Kind: kind, A: a, B: b} }

func TestInternOfEachKind(t *testing.T) {
	a, b, c := lit(0), lit(1), lit(2)
	v0, v1, v2 := variable(0), variable(1), variable(2)
	n0, n1 := node(intern.Not, 2, 0), node(intern.Not, 3, 0)
	for _, x := range []struct {
		f    F
		root int
		more []intern.Node
	}{
		{yes(), 1, nil}, {no(), 0, nil}, {and(), 1, nil}, {or(), 0, nil}, {not(yes()), 0, nil}, {not(or()), 1, nil},
		{a, 2, []intern.Node{v0}}, {b, 2, []intern.Node{v1}}, {lit(19), 2, []intern.Node{variable(19)}}, {and(a), 2, []intern.Node{v0}}, {or(b), 2, []intern.Node{v1}},
		{not(a), 3, []intern.Node{v0, n0}}, {not(not(a)), 2, []intern.Node{v0, n0}}, {not(not(not(a))), 3, []intern.Node{v0, n0}},
		{and(a, a), 2, []intern.Node{v0}}, {or(a, not(a)), 1, []intern.Node{v0, n0}}, {and(not(a), a), 0, []intern.Node{v0, n0}},
		{and(a, b), 4, []intern.Node{v0, v1, node(intern.And, 2, 3)}}, {or(b, a), 4, []intern.Node{v1, v0, node(intern.Or, 2, 3)}},
		{and(or(a, b), or(b, a)), 4, []intern.Node{v0, v1, node(intern.Or, 2, 3)}}, {and(yes(), a, no(), b), 0, []intern.Node{v0, v1}},
		{or(no(), a, yes(), b), 1, []intern.Node{v0, v1}}, {and(a, yes(), b), 4, []intern.Node{v0, v1, node(intern.And, 2, 3)}},
		{and(a, b, c), 6, []intern.Node{v0, v1, node(intern.And, 2, 3), v2, node(intern.And, 4, 5)}},
		{or(a, or(b, c)), 6, []intern.Node{v0, v1, v2, node(intern.Or, 3, 4), node(intern.Or, 2, 5)}},
		{and(or(a, b), not(or(a, b)), c), 0, []intern.Node{v0, v1, node(intern.Or, 2, 3), node(intern.Not, 4, 0), v2}},
		{or(and(a, not(b)), not(and(a, not(b)))), 1, []intern.Node{v0, v1, n1, node(intern.And, 2, 4), node(intern.Not, 5, 0)}},
		{F{And, 5, []F{a, F{True, 6, nil}, F{Not, 7, []F{b}}}}, 5, []intern.Node{v0, v1, n1, node(intern.And, 2, 4)}},
		{and(and(), or(), and()), 0, nil}, {or(or(), and(), or()), 1, nil}, {and(a, or(), b), 0, []intern.Node{v0, v1}},
	} {
		want := append([]intern.Node{node0, node1}, x.more...)
		if root, got, e := Intern(x.f, 20); root != x.root || !slices.Equal(got, want) || e != api.OK {
			t.Errorf("Intern(%v) = %d, %v, %d", x.f, root, got, e)
		}
	}
}

// asked: the operations that a formula asks for in their order, played from the beginning each time that a number is needed.
type asked []intern.Op

func (a *asked) do(kind, x, y int) int {
	*a = append(*a, intern.Op{Kind: kind, A: x, B: y})
	numbers, _ := intern.Play(*a)
	return numbers[len(numbers)-1]
}

func (a *asked) number(f F) int {
	switch f.Kind {
	case Lit:
		return a.do(intern.Var, f.Atom, 0)
	case Not:
		return a.do(intern.Not, a.number(f.Sub[0]), 0)
	case True:
		return 1
	case False:
		return 0
	}
	kind, soFar := intern.And, 1
	if f.Kind == Or {
		kind, soFar = intern.Or, 0
	}
	for _, sub := range f.Sub {
		number := a.number(sub)
		soFar = a.do(kind, soFar, number)
	}
	return soFar
}

func TestIntern(t *testing.T) {
	for _, f := range formulas() {
		if n, _ := Size(f); n > 60 {
			continue
		}
		var a asked
		want := a.number(f)
		_, nodes := intern.Play(a)
		if root, got, e := Intern(f, 4); root != want || !slices.Equal(got, nodes) || e != api.OK {
			t.Fatalf("Intern(%v) = %d, %v, %d, not %d, %v", f, root, got, e, want, nodes)
		}
	}
}

// truths: of each node, by those ahead of it.
func truths(nodes []intern.Node, vals []bool) []bool {
	out := make([]bool, len(nodes))
	for i, n := range nodes {
		switch n.Kind {
		case intern.True:
			out[i] = true
		case intern.Var:
			out[i] = vals[n.A]
		case intern.Not:
			out[i] = !out[n.A]
		case intern.And:
			out[i] = out[n.A] && out[n.B]
		case intern.Or:
			out[i] = out[n.A] || out[n.B]
		}
	}
	return out
}

// TestInternIsTrueWhereTheFormulaIs: and no node stands twice.
func TestInternIsTrueWhereTheFormulaIs(t *testing.T) {
	for _, f := range formulas() {
		root, nodes, e := Intern(f, 4)
		seen := map[intern.Node]bool{}
		for _, n := range nodes {
			if seen[n] {
				t.Fatalf("Intern(%v) has %v twice", f, n)
			}
			seen[n] = true
		}
		for _, vals := range choices(4) {
			if got := truths(nodes, vals)[root]; got != (meant(f, vals) == 1) || e != api.OK {
				t.Fatalf("Intern(%v): %v at %v", f, got, vals)
			}
		}
	}
}

// TestInternRoom: a table has room for 20000 nodes. A formula of n different Lits needs 2n + 1 of them.
func TestInternRoom(t *testing.T) {
	for _, kind := range []int{And, Or} {
		root, nodes, e := Intern(F{Kind: kind, Sub: lits(9999)}, 9999)
		if root != 19998 || len(nodes) != 19999 || e != api.OK {
			t.Errorf("9999 Lits: %d, %d nodes, %d", root, len(nodes), e)
		}
		root, nodes, e = Intern(not(F{Kind: kind, Sub: lits(9999)}), 9999)
		if root != 19999 || len(nodes) != 20000 || e != api.OK {
			t.Errorf("Not of 9999 Lits: %d, %d nodes, %d", root, len(nodes), e)
		}
		for _, f := range []F{
			{Kind: kind, Sub: lits(10000)}, {Kind: kind, Sub: lits(19999)}, not(F{Kind: kind, Sub: append(lits(9999), lit(9999))}),
			or(not(F{Kind: kind, Sub: lits(9999)}), lit(9999), yes()), or(not(F{Kind: kind, Sub: lits(9999)}), not(lit(0)), yes()),
			and(F{Kind: kind, Sub: lits(10000)}, no()),
		} {
			if root, nodes, e := Intern(f, 20000); root != 0 || len(nodes) != 0 || e != api.ErrBig {
				t.Errorf("too many parts: %d, %d nodes, %d", root, len(nodes), e)
			}
		}
	}
	root, nodes, e := Intern(and(many(19999, lit(0))...), 1)
	if root != 2 || len(nodes) != 3 || e != api.OK {
		t.Errorf("the same Lit: %d, %d nodes, %d", root, len(nodes), e)
	}
	if root, nodes, e := Intern(nots(199, lit(0)), 1); root != 3 || len(nodes) != 4 || e != api.OK {
		t.Errorf("199 Nots: %d, %d nodes, %d", root, len(nodes), e)
	}
}

// roomy: the same formula, each list with room behind it, filled with what isn't of the formula.
func roomy(f F) F {
	out := f
	out.Sub = make([]F, 0, len(f.Sub)+3)
	for _, sub := range f.Sub {
		out.Sub = append(out.Sub, roomy(sub))
	}
	for i := len(f.Sub); i < len(f.Sub)+3; i++ {
		out.Sub[:i+1][i] = F{Kind: 77, Atom: 77, Sub: []F{lit(77)}}
	}
	return out
}

// untouched: are the formula and the room behind its lists as roomy made them of f?
func untouched(got, f F) bool {
	if got.Kind != f.Kind || got.Atom != f.Atom || len(got.Sub) != len(f.Sub) {
		return false
	}
	for _, spare := range got.Sub[len(f.Sub) : len(f.Sub)+3] {
		if !same(spare, F{Kind: 77, Atom: 77, Sub: []F{lit(77)}}) {
			return false
		}
	}
	for i, sub := range f.Sub {
		if !untouched(got.Sub[i], sub) {
			return false
		}
	}
	return true
}

func TestNothingIsChanged(t *testing.T) {
	s := some(21)
	for range 300 {
		f := s.formula(4, 5)
		given, vals := roomy(f), []bool{true, false, true, false, true, true}
		Check(given, 4)
		Size(given)
		Eval(given, vals[:4])
		Nnf(given, 4)
		Atoms(given, 4)
		Intern(given, 4)
		if !untouched(given, f) || !slices.Equal(vals, []bool{true, false, true, false, true, true}) {
			t.Fatalf("%v is changed: %v, %v", f, given, vals)
		}
	}
}

// spoil writes into all memory of a formula.
func spoil(f F) {
	for _, sub := range f.Sub {
		spoil(sub)
	}
	list := f.Sub[:cap(f.Sub)]
	for i := range list {
		list[i] = F{Kind: 99, Atom: 99}
	}
}

// TestAnswersAreNew: what is done to an answer is nothing to what was handed in, nor to another answer.
func TestAnswersAreNew(t *testing.T) {
	s := some(31)
	for range 300 {
		f := s.formula(4, 5)
		before := deepCopy(f)
		first, _ := Nnf(f, 4)
		second, _ := Nnf(f, 4)
		spoil(second)
		if !same(f, before) || !same(first, plain(before)) {
			t.Fatalf("Nnf of %v shares", before)
		}
		list, _ := Atoms(f, 4)
		others, _ := Atoms(f, 4)
		keep := slices.Clone(list)
		for i := range others {
			others[i] = 99
		}
		_, nodes, _ := Intern(f, 4)
		_, more, _ := Intern(f, 4)
		kept := slices.Clone(nodes)
		for i := range more {
			more[i] = intern.Node{Kind: 99, A: 99, B: 99}
		}
		if !slices.Equal(list, keep) || !slices.Equal(nodes, kept) || !same(f, before) {
			t.Fatalf("Atoms or Intern of %v shares", before)
		}
	}
}

// TestListsOfAnAnswerAreApart: also where one list stands twice in what is handed in, and with lists as long as they are.
func TestListsOfAnAnswerAreApart(t *testing.T) {
	part := and(lit(0), or(lit(1), lit(2)))
	for _, f := range []F{or(part, part), not(or(part, part)), or(part, not(part))} {
		got, _ := Nnf(f, 3)
		want := deepCopy(got.Sub[1])
		spoil(got.Sub[0])
		if !same(got.Sub[1], want) || !same(part, and(lit(0), or(lit(1), lit(2)))) {
			t.Errorf("the parts of Nnf(%v) share memory", f)
		}
	}
	for n := range 20 {
		got, _ := Nnf(not(or(many(n, not(part))...)), 3)
		for i := range n {
			got.Sub[i].Sub = append(got.Sub[i].Sub, lit(i))
		}
		for i := range n {
			if !same(got.Sub[i].Sub[2], lit(i)) {
				t.Fatalf("Sub %d of %d has another one's list", i, n)
			}
		}
	}
}

// TestCallsAreApart: the same call is answered the same, whatever was called between.
func TestCallsAreApart(t *testing.T) {
	f, g := or(lit(0), not(and(lit(1), lit(0)))), and(lit(3), not(lit(3)))
	root, nodes, _ := Intern(f, 4)
	first, _ := Nnf(f, 4)
	for range 3 {
		Intern(g, 4)
		Nnf(g, 4)
		Atoms(g, 4)
		Eval(g, make([]bool, 4))
		Intern(and(lits(19999)...), 19999)
		again, others, e := Intern(f, 4)
		second, _ := Nnf(f, 4)
		if again != root || !slices.Equal(others, nodes) || e != api.OK || !same(first, second) {
			t.Errorf("another answer: %d, %v, %d", again, others, e)
		}
	}
}

// TestExamples: those of the chapter.
func TestExamples(t *testing.T) {
	a, b := lit(0), lit(1)
	for _, x := range []struct {
		f    F
		n    int
		want api.Errno
	}{{lit(2), 2, api.ErrForm}, {not(), 2, api.ErrForm}, {and(), 0, api.OK}, {nots(201, a), 2, api.ErrBig}, {nots(199, a), 2, api.OK}} {
		if got := Check(x.f, x.n); got != x.want {
			t.Errorf("Check(%v, %d) = %d", x.f, x.n, got)
		}
	}
	if truth, e := Eval(and(), nil); !truth || e != api.OK {
		t.Errorf("Eval of And of none: %v, %d", truth, e)
	}
	if got, e := Nnf(not(and(a, not(b))), 2); !same(got, or(not(a), b)) || e != api.OK {
		t.Errorf("Nnf: %v, %d", got, e)
	}
	if got, e := Nnf(not(yes()), 0); !same(got, no()) || e != api.OK {
		t.Errorf("Nnf: %v, %d", got, e)
	}
	root, nodes, _ := Intern(and(a, a), 2)
	if root != 2 || !slices.Equal(nodes, []intern.Node{node0, node1, variable(0)}) {
		t.Errorf("Intern: %d, %v", root, nodes)
	}
	root, nodes, _ = Intern(or(a, not(a)), 2)
	if root != 1 || !slices.Equal(nodes, []intern.Node{node0, node1, variable(0), node(intern.Not, 2, 0)}) {
		t.Errorf("Intern: %d, %v", root, nodes)
	}
}
