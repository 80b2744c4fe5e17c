package prop

import (
	"slices"
	"strconv"

	"attest/api"
	"attest/atom"
	"attest/lin"
	"attest/logic"
	"attest/rat"
	"attest/rtext"
	"attest/sexp"
)

// The words of properties.
const (
	wordBox   = "box"
	wordBad   = "bad"
	wordTrue  = "true"
	wordFalse = "false"
	wordNot   = "not"
	wordAnd   = "and"
	wordOr    = "or"
	wordLe    = "<="
	wordLt    = "<"
	wordEq    = "="
	wordGe    = ">="
	wordGt    = ">"
	wordPlus  = "+"
	wordMinus = "-"
	wordTimes = "*"
	letterIn  = "x" // of the names of what comes in
	letterOut = "y"
)

// Print: the property's text.
func Print(p Prop, in, out int) (string, api.Errno) {
	if e := Check(p, in, out); e != api.OK {
		return "", e
	}
	rows := []sexp.S{box(p.Box), row(wordBad, bad(p, in))}
	if !fits(rows) {
		return "", api.ErrBig
	}
	return sexp.Print(rows)
}

// row: the list of a word and what follows it. Its parts may stand in other lists too: sexp.Row would copy them through and
// through, each time.
func row(head string, parts ...sexp.S) sexp.S {
	return sexp.S{List: append([]sexp.S{sexp.Word(head)}, parts...)}
}

func number(r rat.Rat) sexp.S {
	return sexp.Word(rtext.Print(r))
}

func box(sides []Side) sexp.S {
	parts := make([]sexp.S, len(sides))
	for i, s := range sides {
		parts[i] = sexp.S{List: []sexp.S{number(s.Lo), number(s.Hi)}}
	}
	return row(wordBox, parts...)
}

// bad: the formula of a property in form. A constraint is written once, and stands wherever the formula speaks of it.
func bad(p Prop, in int) sexp.S {
	atoms := make([]sexp.S, len(p.Atoms))
	used, _ := logic.Atoms(p.Bad, len(p.Atoms))
	for _, i := range used {
		atoms[i] = constraint(p.Atoms[i], in)
	}
	var tell func(f logic.F) sexp.S
	tell = func(f logic.F) sexp.S {
		switch f.Kind {
		case logic.Lit:
			return atoms[f.Atom]
		case logic.True:
			return sexp.Word(wordTrue)
		case logic.False:
			return sexp.Word(wordFalse)
		}
		parts := make([]sexp.S, len(f.Sub))
		for i, sub := range f.Sub {
			parts[i] = tell(sub)
		}
		return row(join(f.Kind), parts...)
	}
	return tell(p.Bad)
}

// join: the word of a formula that has others in it.
func join(kind int) string {
	switch kind {
	case logic.Not:
		return wordNot
	case logic.And:
		return wordAnd
	}
	return wordOr
}

// constraint: its terms, held against the opposite of its constant.
func constraint(a atom.Atom, in int) sexp.S {
	e := lin.Canon(a.E)
	terms := make([]sexp.S, len(e.Terms))
	for i, t := range e.Terms {
		terms[i] = row(wordTimes, number(t.Coef), name(t.Var, in))
	}
	return row(comparison(a.Op), row(wordPlus, terms...), number(rat.Neg(e.Const)))
}

// comparison: the word of a comparison with 0.
func comparison(op int) string {
	switch op {
	case atom.Le:
		return wordLe
	case atom.Lt:
		return wordLt
	}
	return wordEq
}

// name: the name of a variable, where so many numbers come in.
func name(v, in int) sexp.S {
	if v < in {
		return sexp.Word(letterIn + strconv.Itoa(v))
	}
	return sexp.Word(letterOut + strconv.Itoa(v-in))
}

// fits: have rows, printed, no more bytes than a text may have? It is asked ahead of printing, for a constraint of long numbers
// may stand in a formula so often that nobody has room for the text.
func fits(rows []sexp.S) bool {
	left := api.MaxText
	var isBeyond func(s sexp.S) bool
	isBeyond = func(s sexp.S) bool {
		if s.Leaf {
			left -= len(s.Word)
		} else {
			// Its two brackets, and the blanks between its parts, of which there is one at least.
			left -= 1 + len(s.List)
		}
		return left < 0 || slices.ContainsFunc(s.List, isBeyond)
	}
	// Each row ends with a line end.
	left -= len(rows)
	return !slices.ContainsFunc(rows, isBeyond)
}
