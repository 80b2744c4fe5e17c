package smt

import (
	"strconv"
	"strings"

	"attest/api"
	"attest/atom"
	"attest/lin"
	"attest/rat"
	"attest/rtext"
	"attest/sexp"
)

// Parse: the problem whose script it is. Rows are read broadly, and what they don't say is taken to be nothing: whether they
// are the very rows of the problem that was read is seen by printing both.
func Parse(s string) (Problem, api.Errno) {
	rows, _, e := sexp.Parse(s)
	if e != api.OK {
		return Problem{}, e
	}
	p := read(rows)
	if !inForm(p) || !isScript(rows, p) {
		return Problem{}, api.ErrSort
	}
	return p, api.OK
}

// isScript: are rows that have been read those of a problem in form?
func isScript(rows []sexp.S, p Problem) bool {
	want, _ := sexp.Print(rows)
	got, e := sexp.Print(script(p))
	return e == api.OK && got == want
}

// read: the problem that rows speak of, if they speak of one.
func read(rows []sexp.S) Problem {
	var p Problem
	for _, s := range rows {
		head, rest := split(s)
		switch {
		case head == "declare-const" && len(rest) == 2 && rest[1].Word == "Real":
			p.Reals++
		case head == "declare-const" && len(rest) == 2 && rest[1].Word == "Bool":
			p.Bools++
		case head == "define-fun" && len(rest) == 4:
			p.Atoms = append(p.Atoms, readAtom(rest[3]))
		case head == "assert" && len(rest) == 1:
			p.Clauses = append(p.Clauses, readClause(rest[0], p.Bools))
		}
	}
	return p
}

// split: the word at the beginning of a list, and what follows it.
func split(s sexp.S) (string, []sexp.S) {
	if len(s.List) == 0 {
		return "", nil
	}
	return s.List[0].Word, s.List[1:]
}

func readAtom(s sexp.S) atom.Atom {
	head, rest := split(s)
	for op := atom.Le; op <= atom.Eq; op++ {
		if sign(op) == head && len(rest) == 2 {
			return atom.Atom{Op: op, E: lin.Expr{Terms: readSum(rest[0]), Const: rat.Neg(readNumber(rest[1]))}}
		}
	}
	return atom.Atom{}
}

func readSum(s sexp.S) []lin.Term {
	head, parts := split(s)
	if head != "+" {
		parts = []sexp.S{s}
	}
	terms := make([]lin.Term, len(parts))
	for i, part := range parts {
		terms[i] = readTerm(part)
	}
	return terms
}

func readTerm(s sexp.S) lin.Term {
	if head, rest := split(s); head == "*" && len(rest) == 2 {
		return lin.Term{Var: readName(ofReal, rest[1]), Coef: readNumber(rest[0])}
	}
	return lin.Term{Var: readName(ofReal, s), Coef: rat.Int(1)}
}

// readNumber: fractions are made of two words alone, for of fractions within fractions long numbers could come.
func readNumber(s sexp.S) rat.Rat {
	head, rest := split(s)
	switch {
	case head == "-" && len(rest) == 1:
		return rat.Neg(readNumber(rest[0]))
	case head == "/" && len(rest) == 2:
		r, _ := rat.Div(readDigits(rest[0]), readDigits(rest[1]))
		return r
	}
	return readDigits(s)
}

func readDigits(s sexp.S) rat.Rat {
	r, _ := rtext.Parse(s.Word)
	return r
}

// none is the number of what has no name.
const none = -1

// readName: the number in a name of its kind. No text has room for as many names as words may stand in it.
func readName(kind string, s sexp.S) int {
	digits, ok := strings.CutPrefix(s.Word, kind)
	i, err := strconv.Atoi(digits)
	if !ok || err != nil || i < 0 || i > api.MaxWords {
		return none
	}
	return i
}

func readClause(s sexp.S, bools int) []int {
	head, parts := split(s)
	switch {
	case s.Word == "false":
		return nil
	case head != "or":
		parts = []sexp.S{s}
	}
	c := make([]int, len(parts))
	for i, part := range parts {
		c[i] = readLiteral(part, bools)
	}
	return c
}

func readLiteral(s sexp.S, bools int) int {
	if head, rest := split(s); head == "not" && len(rest) == 1 {
		return -readLiteral(rest[0], bools)
	}
	if i := readName(ofBool, s); i != none {
		return 1 + i
	}
	if i := readName(ofAtom, s); i != none {
		return 1 + bools + i
	}
	return 0
}
