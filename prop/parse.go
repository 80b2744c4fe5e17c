package prop

import (
	"strconv"

	"attest/api"
	"attest/atom"
	"attest/lin"
	"attest/logic"
	"attest/rat"
	"attest/rtext"
	"attest/sexp"
)

// Parse: the property of a text, for networks in which so many numbers come in and out.
func Parse(s string, in, out int) (Prop, api.Errno) {
	rows, _, e := sexp.Parse(s)
	if e != api.OK {
		return Prop{}, e
	}
	r := newReader(in)
	p := r.property(rows)
	if r.wrong {
		return Prop{}, api.ErrSort
	}
	if e := Check(p, in, out); e != api.OK {
		return Prop{}, e
	}
	return p, api.OK
}

// reader keeps the constraints that it has read so far, and whether something was wrong.
type reader struct {
	truths   map[string]int                                      // of a word that is a formula: its kind
	joins    map[string]int                                      // of a word ahead of formulas: their formula's kind
	signs    map[string]sign                                     // of a word ahead of two expressions: what it compares
	sums     map[string]func(r *reader, parts []sexp.S) lin.Expr // of a word ahead of parts of an expression: what reads them
	variable func(name string) (int, bool)                       // the variable of a name; false: it is none
	atoms    []atom.Atom
	wrong    bool
}

// sign is a comparison: of the first expression less the second one with 0, or turned, of the second one less the first one.
type sign struct {
	op     int
	turned bool
}

func newReader(in int) *reader {
	return &reader{
		truths: map[string]int{wordTrue: logic.True, wordFalse: logic.False},
		joins:  map[string]int{wordNot: logic.Not, wordAnd: logic.And, wordOr: logic.Or},
		signs: map[string]sign{
			wordLe: {atom.Le, false}, wordLt: {atom.Lt, false}, wordEq: {atom.Eq, false}, wordGe: {atom.Le, true}, wordGt: {atom.Lt, true},
		},
		sums: map[string]func(r *reader, parts []sexp.S) lin.Expr{
			wordPlus: (*reader).sum, wordMinus: (*reader).difference, wordTimes: (*reader).product,
		},
		variable: variables(in),
	}
}

// maxIndex: names' numbers, of six digits at most, are below it.
const maxIndex = 1000000

// letter is what the names of one letter mean: the first one's variable, and how many names there are.
type letter struct {
	first, count int
}

// variables makes what finds the variables of names, where so many numbers come in. How many come out isn't asked: the name of
// a variable that isn't there is a name.
func variables(in int) func(name string) (int, bool) {
	letters := map[string]letter{letterIn: {0, in}, letterOut: {in, maxIndex}}
	return func(name string) (int, bool) {
		head := min(1, len(name))
		of, known := letters[name[:head]]
		i, ok := index(name[head:])
		if !known || !ok || i >= of.count {
			return 0, false
		}
		return of.first + i, true
	}
}

// index: the number in a name, which is written without noughts in front.
func index(digits string) (int, bool) {
	i, err := strconv.Atoi(digits)
	return i, err == nil && i >= 0 && i < maxIndex && strconv.Itoa(i) == digits
}

// split: the word at the beginning of a list, and what follows it.
func split(s sexp.S) (string, []sexp.S) {
	if len(s.List) == 0 {
		return "", nil
	}
	return s.List[0].Word, s.List[1:]
}

func (r *reader) property(rows []sexp.S) Prop {
	if len(rows) != 2 {
		r.wrong = true
		return Prop{}
	}
	first, sides := split(rows[0])
	second, formulas := split(rows[1])
	if first != wordBox || second != wordBad || len(formulas) != 1 {
		r.wrong = true
		return Prop{}
	}
	p := Prop{Box: r.box(sides), Bad: r.formula(formulas[0])}
	p.Atoms = r.atoms
	return p
}

func (r *reader) box(parts []sexp.S) []Side {
	sides := make([]Side, len(parts))
	for i, part := range parts {
		if len(part.List) != 2 {
			r.wrong = true
			return nil
		}
		sides[i] = Side{r.number(part.List[0]), r.number(part.List[1])}
	}
	return sides
}

func (r *reader) formula(s sexp.S) logic.F {
	if kind, ok := r.truths[s.Word]; ok {
		return logic.F{Kind: kind}
	}
	head, parts := split(s)
	if kind, ok := r.joins[head]; ok && (kind != logic.Not || len(parts) == 1) {
		out := logic.F{Kind: kind}
		for _, part := range parts {
			out.Sub = append(out.Sub, r.formula(part))
		}
		return out
	}
	if sign, ok := r.signs[head]; ok && len(parts) == 2 {
		return r.constraint(sign, r.expr(parts[0]), r.expr(parts[1]))
	}
	r.wrong = true
	return logic.F{}
}

// constraint keeps a new constraint: the formula is that it holds.
func (r *reader) constraint(s sign, a, b lin.Expr) logic.F {
	if s.turned {
		a, b = b, a
	}
	r.atoms = append(r.atoms, atom.Atom{E: lin.Sub(a, b), Op: s.op})
	return logic.F{Kind: logic.Lit, Atom: len(r.atoms) - 1}
}

func (r *reader) expr(s sexp.S) lin.Expr {
	if s.Leaf {
		if v, ok := r.variable(s.Word); ok {
			return lin.Var(v)
		}
		return lin.Of(r.number(s))
	}
	head, parts := split(s)
	if read, ok := r.sums[head]; ok {
		return read(r, parts)
	}
	r.wrong = true
	return lin.Expr{}
}

// sum puts all terms together first: so they are brought in form once, not once for each part.
func (r *reader) sum(parts []sexp.S) lin.Expr {
	var all lin.Expr
	for _, part := range parts {
		e := r.expr(part)
		all.Terms = append(all.Terms, e.Terms...)
		all.Const = rat.Add(all.Const, e.Const)
	}
	return lin.Canon(all)
}

func (r *reader) difference(parts []sexp.S) lin.Expr {
	switch len(parts) {
	case 1:
		return lin.Scale(rat.Int(-1), r.expr(parts[0]))
	case 2:
		return lin.Sub(r.expr(parts[0]), r.expr(parts[1]))
	}
	r.wrong = true
	return lin.Expr{}
}

func (r *reader) product(parts []sexp.S) lin.Expr {
	if len(parts) != 2 {
		r.wrong = true
		return lin.Expr{}
	}
	return lin.Scale(r.number(parts[0]), r.expr(parts[1]))
}

// number reads a word that is a number. (A list has no word.)
func (r *reader) number(s sexp.S) rat.Rat {
	n, e := rtext.Parse(s.Word)
	r.wrong = r.wrong || e != api.OK
	return n
}
