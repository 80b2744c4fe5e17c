package prop

import (
	"fmt"
	"math"
	"math/big"
	"slices"
	"strings"
	"testing"

	"attest/api"
	"attest/atom"
	"attest/lin"
	"attest/logic"
	"attest/rat"
	"attest/rtext"
)

// some: a row of numbers put together at haphazard, the same ones each time.
type some uint64

// below: the next number, from 0 to n - 1.
func (s *some) below(n int) int {
	*s = *s*6364136223846793005 + 1442695040888963407
	return int(uint64(*s)>>33) % n
}

// number: a small rational number.
func (s *some) number() rat.Rat {
	return frac(s.below(9)-4, 1+s.below(3))
}

func (s *some) point(n int) []rat.Rat {
	out := make([]rat.Rat, n)
	for i := range out {
		out[i] = s.number()
	}
	return out
}

func frac(n, d int) rat.Rat {
	r, _ := rat.Frac(n, d)
	return r
}

// ints: whole numbers.
func ints(l ...int) []rat.Rat {
	out := make([]rat.Rat, len(l))
	for i, n := range l {
		out[i] = rat.Int(n)
	}
	return out
}

// value: the number of a Rat, for big to work with.
func value(r rat.Rat) *big.Rat {
	out, _ := new(big.Rat).SetString(rtext.Print(r))
	return out
}

// with: a constraint of an Op and a constant, and of variables and coefficients by turns.
func with(op, rest int, terms ...int) atom.Atom {
	out := atom.Atom{Op: op, E: lin.Expr{Const: rat.Int(rest)}}
	for i := 0; i < len(terms); i += 2 {
		out.E.Terms = append(out.E.Terms, lin.Term{Var: terms[i], Coef: rat.Int(terms[i+1])})
	}
	return out
}

// sides: the sides of ends by turns.
func sides(ends ...int) []Side {
	var out []Side
	for i := 0; i < len(ends); i += 2 {
		out = append(out, Side{rat.Int(ends[i]), rat.Int(ends[i+1])})
	}
	return out
}

// unit: so many sides from 0 to 1.
func unit(n int) []Side {
	return slices.Repeat(sides(0, 1), n)
}

func lit(i int) logic.F {
	return logic.F{Kind: logic.Lit, Atom: i}
}

func sub(kind int, parts ...logic.F) logic.F {
	return logic.F{Kind: kind, Sub: parts}
}

// nots: so many Nots within one another around a formula.
func nots(n int, f logic.F) logic.F {
	for range n {
		f = sub(logic.Not, f)
	}
	return f
}

var yes, no = logic.F{Kind: logic.True}, logic.F{Kind: logic.False}

// show: numbers as a test tells them; two lists are told alike just if they are the same, number by number.
func show(l []rat.Rat) string {
	texts := make([]string, len(l))
	for i, r := range l {
		texts[i] = rtext.Print(r)
	}
	return "[" + strings.Join(texts, " ") + "]"
}

func showAtom(a atom.Atom) string {
	out := fmt.Sprintf("op %d of", a.Op)
	for _, t := range a.E.Terms {
		out += fmt.Sprintf(" %s*v%d", rtext.Print(t.Coef), t.Var)
	}
	return out + " and " + rtext.Print(a.E.Const)
}

func showFormula(f logic.F) string {
	told := make([]string, len(f.Sub))
	for i, part := range f.Sub {
		told[i] = showFormula(part)
	}
	return fmt.Sprint(f.Kind, ".", f.Atom, "{", strings.Join(told, ""), "}")
}

// showAll: everything that a property has, what has no meaning too; a list that is nil is told like an empty one.
func showAll(p Prop) string {
	out := "box"
	for _, s := range p.Box {
		out += " " + show([]rat.Rat{s.Lo, s.Hi})
	}
	for _, a := range p.Atoms {
		out += "; " + showAtom(a)
	}
	return out + "; bad " + showFormula(p.Bad)
}

func isZero(p Prop) bool {
	return showAll(p) == "box; bad 0.0{}"
}

// deepCopy: the same property in new memory.
func deepCopy(p Prop) Prop {
	out := Prop{Box: slices.Clone(p.Box), Bad: copyOf(p.Bad)}
	for _, a := range p.Atoms {
		a.E.Terms = slices.Clone(a.E.Terms)
		out.Atoms = append(out.Atoms, a)
	}
	return out
}

func copyOf(f logic.F) logic.F {
	out := logic.F{Kind: f.Kind, Atom: f.Atom}
	for _, part := range f.Sub {
		out.Sub = append(out.Sub, copyOf(part))
	}
	return out
}

// errorOf: what Check should say, each thing looked at apart.
func errorOf(p Prop, in, out int) api.Errno {
	bad := logic.Check(p.Bad, len(p.Atoms))
	if len(p.Atoms) > 200 || bad == api.ErrBig {
		return api.ErrBig
	}
	ok := bad == api.OK && in > 0 && in < 33 && out > 0 && out < 33 && len(p.Box) == in
	for _, s := range p.Box {
		ok = ok && value(s.Lo).Cmp(value(s.Hi)) < 1
	}
	for _, a := range p.Atoms {
		ok = ok && a.Op > 0 && a.Op < 4
		for _, t := range a.E.Terms {
			ok = ok && t.Var > -1 && t.Var < in+out
		}
	}
	if !ok {
		return api.ErrForm
	}
	return api.OK
}

// isMet: does a constraint hold at a point?
func isMet(a atom.Atom, at []rat.Rat) bool {
	sum := value(a.E.Const)
	for _, t := range a.E.Terms {
		sum.Add(sum, new(big.Rat).Mul(value(t.Coef), value(at[t.Var])))
	}
	switch sign := sum.Sign(); a.Op {
	case 1:
		return sign <= 0
	case 2:
		return sign < 0
	default:
		return sign == 0
	}
}

// isBad: is the formula of a property in form true at a point?
func isBad(f logic.F, atoms []atom.Atom, at []rat.Rat) bool {
	truths := 0
	for _, part := range f.Sub {
		if isBad(part, atoms, at) {
			truths++
		}
	}
	return map[int]bool{1: f.Kind == 1 && isMet(atoms[f.Atom], at), 2: truths == 0, 3: truths == len(f.Sub), 4: truths > 0, 5: true}[f.Kind]
}

// isIn: may x come in?
func isIn(box []Side, x []rat.Rat) bool {
	in := 0
	for i, s := range box {
		if i < len(x) && value(s.Lo).Cmp(value(x[i])) < 1 && value(x[i]).Cmp(value(s.Hi)) < 1 {
			in++
		}
	}
	return in == len(box) && in == len(x)
}

// formula: one over so many constraints; now and then with an Atom where it has no meaning.
func (s *some) formula(atoms, deep int) logic.F {
	f := logic.F{Kind: 1 + s.below(6), Atom: s.below(2) * (s.below(9) - 4)}
	if deep == 0 {
		f.Kind = []int{1, 1, 1, 5, 6}[s.below(5)]
	}
	switch f.Kind {
	case 1:
		if atoms == 0 {
			return logic.F{Kind: 5}
		}
		f.Atom = s.below(atoms)
	case 2:
		f.Sub = []logic.F{s.formula(atoms, deep-1)}
	case 3, 4:
		for range s.below(4) {
			f.Sub = append(f.Sub, s.formula(atoms, deep-1))
		}
	}
	return f
}

// constraint: one over so many variables, its terms in any order and with factors 0 among them.
func (s *some) constraint(vars int) atom.Atom {
	a := atom.Atom{Op: 1 + s.below(3), E: lin.Expr{Const: s.number()}}
	for range s.below(5) {
		a.E.Terms = append(a.E.Terms, lin.Term{Var: s.below(vars), Coef: s.number()})
	}
	return a
}

// prop: a property in form, and for how many numbers.
func (s *some) prop() (Prop, int, int) {
	in, out := 1+s.below(3), 1+s.below(3)
	var p Prop
	for range in {
		a, b := s.number(), s.number()
		p.Box = append(p.Box, Side{rat.Min(a, b), rat.Max(a, b)})
	}
	for range s.below(5) {
		p.Atoms = append(p.Atoms, s.constraint(in+out))
	}
	p.Bad = s.formula(len(p.Atoms), s.below(4))
	return p, in, out
}

// change does one small thing to a property, or nothing.
func (s *some) change(p *Prop) {
	switch s.below(9) {
	case 0:
		p.Box = p.Box[1:]
	case 1:
		p.Box = append(p.Box, Side{s.number(), s.number()})
	case 2:
		i := s.below(len(p.Box))
		p.Box[i].Lo, p.Box[i].Hi = p.Box[i].Hi, p.Box[i].Lo
	case 3:
		if len(p.Atoms) > 0 {
			p.Atoms = p.Atoms[1:]
		}
	case 4:
		p.Atoms = append(p.Atoms, s.constraint(8))
	case 5:
		if len(p.Atoms) > 0 {
			p.Atoms[s.below(len(p.Atoms))].Op = s.below(6) - 1
		}
	case 6:
		p.Bad = sub(s.below(9)-1, p.Bad, s.formula(1+len(p.Atoms), 1))
	}
}

// judged is a property, for how many numbers, and what Check says of it.
type judged struct {
	name    string
	p       Prop
	in, out int
	want    api.Errno
}

// widths: what may come in and out, and how many sides there are.
func widths() []judged {
	var out []judged
	for _, x := range []struct {
		in, out, sides int
		want           api.Errno
	}{
		{1, 1, 1, api.OK}, {32, 32, 32, api.OK}, {1, 32, 1, api.OK}, {32, 1, 32, api.OK}, {5, 7, 5, api.OK}, {0, 1, 0, api.ErrForm}, {1, 0, 1, api.ErrForm}, {0, 0, 0, api.ErrForm}, {33, 1, 33, api.ErrForm}, {1, 33, 1, api.ErrForm}, {33, 33, 33, api.ErrForm},
		{-1, 1, 0, api.ErrForm}, {1, -1, 1, api.ErrForm}, {-1, 3, 0, api.ErrForm}, {math.MinInt, 1, 0, api.ErrForm}, {1, math.MinInt, 1, api.ErrForm}, {math.MaxInt, 1, 1, api.ErrForm}, {1, math.MaxInt, 1, api.ErrForm}, {math.MaxInt, math.MaxInt, 1, api.ErrForm}, {math.MinInt, math.MinInt, 0, api.ErrForm},
		{2, 1, 1, api.ErrForm}, {2, 1, 3, api.ErrForm}, {2, 1, 0, api.ErrForm}, {1, 2, 2, api.ErrForm}, {32, 1, 31, api.ErrForm}, {32, 1, 33, api.ErrForm}, {1, 1, 0, api.ErrForm}, {1, 1, 1000, api.ErrForm}, {31, 1, 32, api.ErrForm}, {0, 1, 1, api.ErrForm},
	} {
		out = append(out, judged{fmt.Sprint("widths ", x), Prop{Box: unit(x.sides), Bad: yes}, x.in, x.out, x.want})
	}
	for _, x := range []struct {
		box  []Side
		want api.Errno
	}{
		{sides(0, 0), api.OK}, {sides(-1, -1), api.OK}, {sides(1, 0), api.ErrForm}, {sides(0, -1), api.ErrForm}, {sides(0, 1, 5, 5), api.OK}, {sides(0, 1, 5, 4), api.ErrForm}, {sides(1, 0, 5, 5), api.ErrForm}, {sides(0, 1, 1, 0, 0, 1), api.ErrForm}, {[]Side{{frac(1, 3), frac(1, 2)}}, api.OK},
		{[]Side{{frac(1, 2), frac(1, 3)}}, api.ErrForm}, {[]Side{{frac(-1, 2), frac(-1, 3)}}, api.OK}, {[]Side{{frac(-1, 3), frac(-1, 2)}}, api.ErrForm}, {make([]Side, 4), api.OK},
	} {
		out = append(out, judged{fmt.Sprint("the box of ", showAll(Prop{Box: x.box})), Prop{Box: x.box, Bad: no}, len(x.box), 2, x.want})
	}
	return append(out, judged{"nothing", Prop{}, 0, 0, api.ErrForm}, judged{"nothing for 1 and 1", Prop{}, 1, 1, api.ErrForm}, judged{"no Bad", Prop{Box: unit(1)}, 1, 1, api.ErrForm})
}

// constraints: for two numbers that come in and one that comes out.
func constraints() []judged {
	var out []judged
	for _, x := range []struct {
		a    atom.Atom
		want api.Errno
	}{
		{with(1, 0), api.OK}, {with(2, 5), api.OK}, {with(3, -5), api.OK}, {with(0, 0), api.ErrForm}, {with(4, 0), api.ErrForm}, {with(-1, 0), api.ErrForm}, {with(math.MaxInt, 0), api.ErrForm}, {with(0, 0, 0, 1), api.ErrForm}, {atom.Atom{}, api.ErrForm},
		{with(1, 0, 0, 1), api.OK}, {with(1, 0, 1, 1), api.OK}, {with(1, 0, 2, 1), api.OK}, {with(1, 0, 3, 1), api.ErrForm}, {with(1, 0, -1, 1), api.ErrForm}, {with(1, 0, 4, 1), api.ErrForm}, {with(1, 0, math.MaxInt, 1), api.ErrForm}, {with(1, 0, math.MinInt, 1), api.ErrForm},
		{with(1, 0, 3, 0), api.ErrForm}, {with(1, 0, -1, 0), api.ErrForm}, {with(1, 0, 2, 0), api.OK}, {with(1, 0, 3, 1, 3, -1), api.ErrForm}, {with(1, 0, 0, 1, 3, 1), api.ErrForm}, {with(1, 0, 3, 1, 0, 1), api.ErrForm}, {with(1, 0, 0, 1, -1, 0, 1, 1), api.ErrForm},
		{with(2, 1, 2, 1, 0, 1), api.OK}, {with(2, 1, 0, 1, 0, 1), api.OK}, {with(2, 1, 0, 1, 0, -1), api.OK}, {with(3, 1, 2, 1, 1, 0, 2, -1, 0, 5), api.OK}, {with(3, 1, 0, 2, 1, 4), api.OK},
	} {
		for _, atoms := range [][]atom.Atom{{x.a}, {with(1, 1, 0, 1), x.a}, {x.a, with(1, 1, 0, 1)}} {
			out = append(out, judged{"the constraint " + showAtom(x.a), Prop{unit(2), atoms, yes}, 2, 1, x.want}, judged{"asked for: " + showAtom(x.a), Prop{unit(2), atoms, lit(0)}, 2, 1, x.want})
		}
	}
	for _, x := range []judged{
		{"v31 and v32", Prop{unit(1), []atom.Atom{with(1, 0, 31, 1, 32, 1)}, yes}, 1, 32, api.OK}, {"v33", Prop{unit(1), []atom.Atom{with(1, 0, 33, 1)}, yes}, 1, 32, api.ErrForm}, {"v63", Prop{unit(32), []atom.Atom{with(1, 0, 63, 1)}, yes}, 32, 32, api.OK},
		{"v64", Prop{unit(32), []atom.Atom{with(1, 0, 64, 1)}, yes}, 32, 32, api.ErrForm}, {"v64 of 33 and 32", Prop{unit(33), []atom.Atom{with(1, 0, 64, 1)}, yes}, 33, 32, api.ErrForm},
	} {
		out = append(out, x)
	}
	return out
}

// formulas: over two constraints.
func formulas() []judged {
	self := make([]logic.F, 1)
	self[0] = sub(logic.Not, self...)
	self[0].Sub = self
	var out []judged
	for i, x := range []struct {
		f    logic.F
		want api.Errno
	}{
		{yes, api.OK}, {no, api.OK}, {lit(0), api.OK}, {lit(1), api.OK}, {lit(2), api.ErrForm}, {lit(-1), api.ErrForm}, {lit(math.MaxInt), api.ErrForm}, {lit(math.MinInt), api.ErrForm}, {logic.F{}, api.ErrForm}, {logic.F{Kind: 7}, api.ErrForm}, {logic.F{Kind: -1}, api.ErrForm},
		{sub(logic.Not), api.ErrForm}, {sub(logic.Not, yes, yes), api.ErrForm}, {sub(logic.Not, lit(1)), api.OK}, {sub(logic.And), api.OK}, {sub(logic.Or), api.OK}, {sub(logic.And, lit(0), lit(1), lit(0)), api.OK}, {sub(logic.Or, lit(0), lit(2)), api.ErrForm}, {sub(logic.True, yes), api.ErrForm}, {sub(logic.Lit, yes), api.ErrForm},
		{nots(199, lit(0)), api.OK}, {nots(200, lit(0)), api.ErrBig}, {nots(200, lit(9)), api.ErrBig}, {sub(logic.And, slices.Repeat([]logic.F{lit(1)}, 19999)...), api.OK}, {sub(logic.And, slices.Repeat([]logic.F{lit(1)}, 20000)...), api.ErrBig}, {sub(logic.Not, slices.Repeat([]logic.F{lit(7)}, 20000)...), api.ErrBig},
		{self[0], api.ErrBig}, {logic.F{Kind: logic.True, Atom: 9}, api.OK}, {logic.F{Kind: logic.And, Atom: -9, Sub: []logic.F{yes}}, api.OK},
	} {
		out = append(out, judged{fmt.Sprint("formula ", i), Prop{unit(1), []atom.Atom{with(1, 0, 0, 1), with(2, 0, 1, 1)}, x.f}, 1, 1, x.want})
	}
	return append(out, judged{"a Lit without constraints", Prop{Box: unit(1), Bad: lit(0)}, 1, 1, api.ErrForm})
}

// counts: of constraints; and properties that are too great and not in form.
func counts() []judged {
	atoms := func(n int) []atom.Atom { return slices.Repeat([]atom.Atom{with(1, 0, 0, 1)}, n) }
	out := []judged{
		{"199 constraints", Prop{unit(1), atoms(199), lit(198)}, 1, 1, api.OK}, {"200 constraints", Prop{unit(1), atoms(200), lit(199)}, 1, 1, api.OK}, {"201 constraints", Prop{unit(1), atoms(201), lit(200)}, 1, 1, api.ErrBig}, {"2000 constraints", Prop{unit(1), atoms(2000), yes}, 1, 1, api.ErrBig},
		{"201 of no Op", Prop{unit(1), make([]atom.Atom, 201), yes}, 1, 1, api.ErrBig}, {"200 of no Op", Prop{unit(1), make([]atom.Atom, 200), yes}, 1, 1, api.ErrForm},
	}
	for _, great := range []Prop{{unit(1), atoms(201), yes}, {unit(1), nil, nots(200, yes)}, {unit(1), nil, sub(logic.Or, make([]logic.F, 20000)...)}} {
		for _, width := range [][2]int{{0, 1}, {1, 0}, {33, 1}, {1, 33}, {-5, -5}, {2, 1}, {math.MaxInt, math.MinInt}} {
			out = append(out, judged{fmt.Sprint("too great, ", width), great, width[0], width[1], api.ErrBig})
		}
		p, q, r := great, deepCopy(great), deepCopy(great)
		p.Box = nil
		q.Box = sides(1, 0)
		r.Atoms = append([]atom.Atom{with(0, 0), with(1, 0, 9, 9)}, r.Atoms...)
		for _, x := range []Prop{p, q, r} {
			out = append(out, judged{"too great, not in form", x, 1, 1, api.ErrBig})
		}
	}
	return append(out, judged{"201 constraints, a wrong Lit", Prop{unit(1), atoms(201), lit(201)}, 1, 1, api.ErrBig}, judged{"201 constraints, no Bad", Prop{unit(1), atoms(201), logic.F{}}, 1, 1, api.ErrBig}, judged{"200 constraints, a wrong Lit", Prop{unit(1), atoms(200), lit(200)}, 1, 1, api.ErrForm})
}

func cases() []judged {
	return slices.Concat(widths(), constraints(), formulas(), counts())
}

func TestLimits(t *testing.T) {
	if MaxAtoms != 200 || api.MaxUnits != 32 || api.MaxNodes != 20000 || api.MaxDepth != 200 || api.MaxText != 1000000 || api.MaxWords != 100000 || api.MaxDigits != 20000 {
		t.Error("other limits")
	}
}

func TestCheck(t *testing.T) {
	for _, c := range cases() {
		if got := Check(c.p, c.in, c.out); got != c.want {
			t.Errorf("Check of %s: %d, not %d", c.name, got, c.want)
		}
		if want := errorOf(c.p, c.in, c.out); want != c.want {
			t.Errorf("%s: the judge says %d", c.name, want)
		}
	}
}

// TestCheckOfMany: properties in form, and such as have been changed a little.
func TestCheckOfMany(t *testing.T) {
	s, said := some(3), map[api.Errno]int{}
	for range 20000 {
		p, in, out := s.prop()
		s.change(&p)
		if s.below(4) == 0 {
			in += s.below(5) - 2
		}
		if s.below(4) == 0 {
			out += s.below(5) - 2
		}
		want := errorOf(p, in, out)
		said[want]++
		if got := Check(p, in, out); got != want {
			t.Fatalf("Check(%s, %d, %d) = %d, not %d", showAll(p), in, out, got, want)
		}
	}
	if said[api.OK] < 2000 || said[api.ErrForm] < 2000 {
		t.Errorf("%v", said)
	}
}

// TestInside: at both ends of a side, beyond each, with fewer and with more numbers; of properties in form and of others.
func TestInside(t *testing.T) {
	box := []Side{{rat.Int(-1), frac(1, 3)}, {rat.Int(2), rat.Int(2)}}
	for _, c := range []struct {
		box  []Side
		x    []rat.Rat
		want bool
	}{
		{box, ints(0, 2), true}, {box, ints(-1, 2), true}, {box, []rat.Rat{frac(1, 3), rat.Int(2)}, true}, {box, []rat.Rat{frac(-1000001, 1000000), rat.Int(2)}, false}, {box, []rat.Rat{frac(1000001, 3000000), rat.Int(2)}, false}, {box, []rat.Rat{frac(999999, 3000000), rat.Int(2)}, true},
		{box, ints(-2, 2), false}, {box, ints(1, 2), false}, {box, ints(0, 1), false}, {box, ints(0, 3), false}, {box, []rat.Rat{{}, frac(2000001, 1000000)}, false}, {box, []rat.Rat{{}, frac(1999999, 1000000)}, false},
		{box, nil, false}, {box, ints(0), false}, {box, ints(0, 2, 0), false}, {box, ints(0, 2, 2), false}, {nil, nil, true}, {nil, ints(), true}, {nil, ints(0), false}, {[]Side{}, nil, true}, {sides(1, 0), ints(0), false}, {sides(1, 0), ints(1), false}, {sides(0, 1, 0, 1), ints(0, 1), true}, {sides(0, 1, 0, 1), ints(1, 0), true},
		{sides(0, 1, 0, 1), ints(0, 2), false}, {sides(0, 1, 0, 1), ints(2, 0), false}, {unit(40), make([]rat.Rat, 40), true}, {unit(40), make([]rat.Rat, 39), false}, {make([]Side, 3), ints(0, 0, 0), true},
	} {
		p := Prop{Box: c.box}
		if got := Inside(p, c.x); got != c.want || isIn(c.box, c.x) != c.want {
			t.Errorf("Inside(%s, %s) = %v", showAll(p), show(c.x), got)
		}
	}
	s, said := some(5), map[bool]int{}
	for range 5000 {
		p, in, _ := s.prop()
		s.change(&p)
		x := s.point(in)
		for i := range p.Box {
			if i < len(x) && s.below(3) > 0 {
				x[i] = []rat.Rat{p.Box[i].Lo, p.Box[i].Hi}[s.below(2)]
			}
		}
		want := isIn(p.Box, x)
		said[want]++
		if got := Inside(p, x); got != want {
			t.Fatalf("Inside(%s, %s) = %v", showAll(p), show(x), got)
		}
	}
	if said[true] < 500 || said[false] < 500 {
		t.Errorf("%v", said)
	}
}

func TestViolates(t *testing.T) {
	s, said := some(7), map[string]int{}
	for range 4000 {
		p, in, out := s.prop()
		for range 4 {
			x, y := s.point(in), s.point(out)
			for i, side := range p.Box {
				x[i] = []rat.Rat{x[i], side.Lo, side.Hi}[s.below(3)]
			}
			inside, bad := isIn(p.Box, x), isBad(p.Bad, p.Atoms, slices.Concat(x, y))
			said[fmt.Sprint(inside, bad)]++
			if got, e := Violates(p, x, y); got != (inside && bad) || e != api.OK {
				t.Fatalf("Violates(%s, %s, %s) = %v, %d", showAll(p), show(x), show(y), got, e)
			}
		}
	}
	for _, x := range []string{"true true", "true false", "false true", "false false"} {
		if said[x] < 500 {
			t.Errorf("%v", said)
		}
	}
}

// TestViolatesAtTheEnds: where only the box and where only Bad says no; each comparison below, at and above 0.
func TestViolatesAtTheEnds(t *testing.T) {
	le, lt, eq := with(1, -1, 0, 1, 1, 1), with(2, -1, 0, 1, 1, 1), with(3, -1, 0, 1, 1, 1)
	p := Prop{sides(0, 2), []atom.Atom{le, lt, eq}, logic.F{}}
	for _, c := range []struct {
		bad  logic.F
		x, y int
		want bool
	}{
		{lit(0), 0, 0, true}, {lit(0), 0, 1, true}, {lit(0), 1, 0, true}, {lit(0), 1, 1, false}, {lit(0), 2, -1, true}, {lit(0), 3, -5, false}, {lit(0), -1, 0, false}, {lit(1), 0, 0, true}, {lit(1), 0, 1, false}, {lit(1), 1, 1, false}, {lit(2), 0, 0, false}, {lit(2), 0, 1, true}, {lit(2), 1, 1, false}, {lit(2), 2, -1, true}, {lit(2), -1, 2, false},
		{yes, 0, 9, true}, {yes, 2, 9, true}, {yes, 3, 9, false}, {yes, -1, 9, false}, {no, 1, 1, false}, {sub(logic.And), 1, 1, true}, {sub(logic.Or), 1, 1, false}, {sub(logic.Not, lit(0)), 1, 1, true}, {sub(logic.Not, lit(0)), 3, 1, false}, {sub(logic.And, lit(0), lit(2)), 0, 1, true}, {sub(logic.And, lit(1), lit(2)), 0, 1, false}, {sub(logic.Or, lit(1), lit(2)), 0, 1, true},
	} {
		p.Bad = c.bad
		if got, e := Violates(p, ints(c.x), ints(c.y)); got != c.want || e != api.OK {
			t.Errorf("%s at %d, %d: %v, %d", showFormula(c.bad), c.x, c.y, got, e)
		}
	}
	for _, c := range []struct{ x, y int }{{0, 0}, {0, 1}, {1, 0}, {2, 1}, {1, 33}, {33, 1}} {
		p.Bad = yes
		if got, e := Violates(p, make([]rat.Rat, c.x), make([]rat.Rat, c.y)); got || e != api.ErrForm {
			t.Errorf("with %d and %d numbers: %v, %d", c.x, c.y, got, e)
		}
	}
	wide := Prop{unit(1), []atom.Atom{with(1, 0, 3, 1)}, yes}
	for y, want := range map[int]api.Errno{1: api.ErrForm, 2: api.ErrForm, 3: api.OK, 32: api.OK, 33: api.ErrForm} {
		if got, e := Violates(wide, ints(0), make([]rat.Rat, y)); got != (want == api.OK) || e != want {
			t.Errorf("with %d numbers out: %v, %d", y, got, e)
		}
	}
}

// TestViolatesOfCases: the error of Check and false.
func TestViolatesOfCases(t *testing.T) {
	for _, c := range cases() {
		if c.in < 0 || c.in > 50 || c.out < 0 || c.out > 50 {
			continue
		}
		x, y := make([]rat.Rat, c.in), make([]rat.Rat, c.out)
		got, e := Violates(c.p, x, y)
		if e != c.want || e != api.OK && got {
			t.Errorf("Violates of %s: %v, %d, not %d", c.name, got, e, c.want)
		}
		if e == api.OK && got != (isIn(c.p.Box, x) && isBad(c.p.Bad, c.p.Atoms, slices.Concat(x, y))) {
			t.Errorf("Violates of %s: %v", c.name, got)
		}
	}
}

// roomy: the same property, each list with room behind it, filled with what isn't of the list.
func roomy(p Prop) Prop {
	spare := with(7, 7, 7, 7)
	out := Prop{Box: room(p.Box, sides(8, 8)[0]), Bad: roomyFormula(p.Bad)}
	for _, a := range p.Atoms {
		a.E.Terms = room(a.E.Terms, spare.E.Terms[0])
		out.Atoms = append(out.Atoms, a)
	}
	out.Atoms = room(out.Atoms, spare)
	return out
}

func roomyFormula(f logic.F) logic.F {
	out := logic.F{Kind: f.Kind, Atom: f.Atom}
	for _, part := range f.Sub {
		out.Sub = append(out.Sub, roomyFormula(part))
	}
	out.Sub = room(out.Sub, lit(77))
	return out
}

func room[T any](l []T, spare T) []T {
	return append(slices.Clone(l), spare, spare)[:len(l)]
}

// withRoom: what a property has, and what stands in the room behind its lists, told as text.
func withRoom(p Prop) string {
	out := showAll(p)
	out += showAll(Prop{Box: p.Box[len(p.Box) : len(p.Box)+2], Atoms: p.Atoms[len(p.Atoms) : len(p.Atoms)+2]})
	for _, a := range p.Atoms {
		out += showAtom(atom.Atom{E: lin.Expr{Terms: a.E.Terms[len(a.E.Terms) : len(a.E.Terms)+2]}})
	}
	var tell func(f logic.F)
	tell = func(f logic.F) {
		for _, part := range f.Sub {
			tell(part)
		}
		out += showFormula(logic.F{Sub: f.Sub[len(f.Sub) : len(f.Sub)+2]})
	}
	tell(p.Bad)
	return out
}

// spoil writes into all memory of a property.
func spoil(p Prop) {
	for _, a := range p.Atoms[:cap(p.Atoms)] {
		fill(a.E.Terms, lin.Term{Var: 99, Coef: rat.Int(99)})
	}
	fill(p.Atoms, with(9, 9))
	fill(p.Box, sides(99, 98)[0])
	spoilFormula(p.Bad)
}

func spoilFormula(f logic.F) {
	for _, part := range f.Sub {
		spoilFormula(part)
	}
	fill(f.Sub, logic.F{Kind: 99, Atom: 99})
}

func fill[T any](l []T, with T) {
	l = l[:cap(l)]
	for i := range l {
		l[i] = with
	}
}

func TestNothingIsChanged(t *testing.T) {
	s := some(9)
	for range 2000 {
		p, in, out := s.prop()
		s.change(&p)
		given := roomy(p)
		kept := withRoom(given)
		x, y := room(s.point(in), rat.Int(55)), room(s.point(out), rat.Int(56))
		before := show(x[:in+2]) + show(y[:out+2])
		Check(given, in, out)
		Inside(given, x)
		Violates(given, x, y)
		Print(given, in, out)
		if withRoom(given) != kept || showAll(given) != showAll(p) || show(x[:in+2])+show(y[:out+2]) != before {
			t.Fatalf("%s is changed: %s", showAll(p), showAll(given))
		}
	}
}

// TestAnswersAreNew: what is done to an answer is nothing to another answer.
func TestAnswersAreNew(t *testing.T) {
	s := some(11)
	for range 2000 {
		p, in, out := s.prop()
		text, e := Print(p, in, out)
		if e != api.OK {
			t.Fatalf("Print(%s): %d", showAll(p), e)
		}
		first, _ := Parse(text, in, out)
		want := showAll(first)
		second, _ := Parse(text, in, out)
		spoil(first)
		spoil(p)
		if third, _ := Parse(text, in, out); showAll(second) != want || showAll(third) != want {
			t.Fatalf("an answer of Parse(%q) is shared", text)
		}
	}
}

// TestListsOfAnAnswerAreApart: each may be written and made longer without another one's being changed.
func TestListsOfAnAnswerAreApart(t *testing.T) {
	s := some(13)
	for range 2000 {
		p, in, out := s.prop()
		text, _ := Print(p, in, out)
		read, _ := Parse(text, in, out)
		for i := range read.Atoms {
			terms := &read.Atoms[i].E.Terms
			fill(*terms, lin.Term{Var: i})
			*terms = append(*terms, lin.Term{Var: i})
		}
		subs := []*[]logic.F{}
		var collect func(f *logic.F)
		collect = func(f *logic.F) {
			for i := range f.Sub {
				collect(&f.Sub[i])
			}
			subs = append(subs, &f.Sub)
		}
		collect(&read.Bad)
		for i, l := range subs {
			*l = append(*l, lit(i))
		}
		for i, a := range read.Atoms {
			if slices.ContainsFunc(a.E.Terms, func(t lin.Term) bool { return t.Var != i }) {
				t.Fatalf("constraint %d of %q has another one's term", i, text)
			}
		}
		for i, l := range subs {
			if (*l)[len(*l)-1].Atom != i {
				t.Fatalf("a formula of %q has another one's part", text)
			}
		}
	}
}
