package smt

import (
	"slices"
	"strconv"

	"attest/api"
	"attest/atom"
	"attest/lin"
	"attest/rat"
	"attest/rtext"
	"attest/sexp"
)

// row: the list of a word and what follows it.
func row(head string, rest ...sexp.S) sexp.S {
	return sexp.Row(append([]sexp.S{sexp.Word(head)}, rest...)...)
}

// name: the name of number i of its kind.
func name(kind string, i int) sexp.S {
	return sexp.Word(kind + strconv.Itoa(i))
}

// The kinds of names.
const (
	ofReal = "x"
	ofBool = "p"
	ofAtom = "a"
)

// script: the rows of a problem in form.
func script(p Problem) []sexp.S {
	out := []sexp.S{row("set-logic", sexp.Word("QF_LRA"))}
	for i := range p.Reals {
		out = append(out, row("declare-const", name(ofReal, i), sexp.Word("Real")))
	}
	for i := range p.Bools {
		out = append(out, row("declare-const", name(ofBool, i), sexp.Word("Bool")))
	}
	for i, a := range p.Atoms {
		out = append(out, row("define-fun", name(ofAtom, i), sexp.Row(), sexp.Word("Bool"), comparison(a)))
	}
	for _, c := range p.Clauses {
		out = append(out, row("assert", choice(c, p.Bools)))
	}
	return append(out, row("check-sat"))
}

// comparison: a constraint's sum of terms held against the opposite of its constant.
func comparison(a atom.Atom) sexp.S {
	return row(sign(a.Op), append([]sexp.S{sum(a.E.Terms)}, number(rat.Neg(a.E.Const))...)...)
}

// sign: the word of a comparison.
func sign(op int) string {
	switch op {
	case atom.Le:
		return "<="
	case atom.Lt:
		return "<"
	}
	return "="
}

func sum(terms []lin.Term) sexp.S {
	parts := make([]sexp.S, len(terms))
	for i, t := range terms {
		parts[i] = name(ofReal, t.Var)
		if !isOne(t.Coef) {
			parts[i] = row("*", append(number(t.Coef), parts[i])...)
		}
	}
	if len(parts) == 1 {
		return parts[0]
	}
	return row("+", parts...)
}

// number: the one word or list that rtext.Smt writes.
func number(r rat.Rat) []sexp.S {
	out, _, _ := sexp.Parse(rtext.Smt(r))
	return out
}

// choice: that one of a clause's literals is true.
func choice(c []int, bools int) sexp.S {
	parts := make([]sexp.S, len(c))
	for i, l := range c {
		parts[i] = literal(l, bools)
	}
	switch len(parts) {
	case 0:
		return sexp.Word("false")
	case 1:
		return parts[0]
	}
	return row("or", parts...)
}

func literal(l, bools int) sexp.S {
	switch {
	case l < 0:
		return row("not", literal(-l, bools))
	case l <= bools:
		return name(ofBool, l-1)
	}
	return name(ofAtom, l-bools-1)
}

// Print: the problem's script.
func Print(p Problem) (string, api.Errno) {
	if e := Check(p); e != api.OK {
		return "", e
	}
	if crowded(p) {
		return "", api.ErrBig
	}
	rows := script(p)
	text, e := sexp.Print(rows)
	if e != api.OK || len(text) > api.MaxText || long(rows) {
		return "", api.ErrBig
	}
	return text, api.OK
}

// A limb of 32 bits is worth nine digits at least, but for the highest one.
const digitsOfLimb = 9

// crowded: is it plain ahead of all texts that there will be too many nodes, digits or bytes? Problems that no limit of
// their own keeps small would take far more room and time than the answer needs.
func crowded(p Problem) bool {
	terms, digits := 0, 0
	for _, a := range p.Atoms {
		numbers := []rat.Rat{a.E.Const}
		for _, t := range a.E.Terms {
			numbers = append(numbers, t.Coef)
		}
		for _, r := range numbers {
			least := leastDigits(r)
			if least > api.MaxDigits {
				return true
			}
			digits += least
		}
		terms += len(a.E.Terms)
	}
	return terms > api.MaxWords || digits > api.MaxText
}

// leastDigits: so many digits at least has the longer one of the number's two parts.
func leastDigits(r rat.Rat) int {
	_, num, den := rat.Parts(r)
	return digitsOfLimb * (max(len(num), len(den)) - 1)
}

// long: does a word stand there that is longer than a number may be? Nothing else in a script is as long.
func long(l []sexp.S) bool {
	return slices.ContainsFunc(l, func(s sexp.S) bool { return len(s.Word) > api.MaxDigits || long(s.List) })
}
