package prop

import (
	"fmt"
	"maps"
	"math"
	"math/big"
	"regexp"
	"slices"
	"strconv"
	"strings"
	"testing"

	"attest/api"
	"attest/atom"
	"attest/lin"
	"attest/logic"
	"attest/rat"
	"attest/rtext"
	"attest/sexp"
)

// The forms of words.
var (
	numberForm = regexp.MustCompile(`^-?[0-9]+(/[0-9]*[1-9][0-9]*|\.[0-9]+)?$`)
	nameForm   = regexp.MustCompile(`^([xy])(0|[1-9][0-9]{0,5})$`)
	noughts    = regexp.MustCompile(`(^|[-/])0+([0-9])`)
)

// judge reads a text by what the chapter says of it, with big's numbers; it gives up at the first wrong thing.
type judge struct {
	in    int
	atoms []string
	terms [][]int // of each constraint: its variables
}

// unsorted is how a judge gives up.
type unsorted struct{}

func insist(ok bool) {
	if !ok {
		panic(unsorted{})
	}
}

// sum is a linear expression: what stands at each variable, and the constant at none.
type sum map[int]*big.Rat

const none = math.MinInt

// plus: a and r times b, in a's memory.
func plus(a sum, r *big.Rat, b sum) sum {
	for v, c := range b {
		if a[v] == nil {
			a[v] = new(big.Rat)
		}
		a[v].Add(a[v], new(big.Rat).Mul(r, c))
	}
	return a
}

func whole(n int64) *big.Rat {
	return big.NewRat(n, 1)
}

func (j *judge) number(s sexp.S) *big.Rat {
	insist(s.Leaf && len(s.Word) <= 20000 && numberForm.MatchString(s.Word))
	// big would read a 0 in front of other digits as the sign of another base.
	out, ok := new(big.Rat).SetString(noughts.ReplaceAllString(s.Word, "$1$2"))
	if !ok {
		panic("no number: " + s.Word)
	}
	return out
}

func (j *judge) expr(s sexp.S) sum {
	if name := nameForm.FindStringSubmatch(s.Word); s.Leaf && name != nil {
		i, _ := strconv.Atoi(name[2])
		insist(name[1] == "y" || i < j.in)
		if name[1] == "y" {
			i += j.in
		}
		return sum{i: whole(1)}
	}
	if s.Leaf {
		return sum{none: j.number(s)}
	}
	insist(len(s.List) > 0 && s.List[0].Leaf)
	parts := s.List[1:]
	switch s.List[0].Word {
	case "+":
		out := sum{}
		for _, part := range parts {
			out = plus(out, whole(1), j.expr(part))
		}
		return out
	case "-":
		insist(len(parts) == 1 || len(parts) == 2)
		if len(parts) == 1 {
			return plus(sum{}, whole(-1), j.expr(parts[0]))
		}
		return plus(j.expr(parts[0]), whole(-1), j.expr(parts[1]))
	case "*":
		insist(len(parts) == 2)
		return plus(sum{}, j.number(parts[0]), j.expr(parts[1]))
	}
	panic(unsorted{})
}

// formula: as showFormula tells it.
func (j *judge) formula(s sexp.S) string {
	if s.Leaf {
		insist(s.Word == "true" || s.Word == "false")
		return map[string]string{"true": "5.0{}", "false": "6.0{}"}[s.Word]
	}
	insist(len(s.List) > 0 && s.List[0].Leaf)
	head, parts := s.List[0].Word, s.List[1:]
	if kind := map[string]int{"not": 2, "and": 3, "or": 4}[head]; kind > 0 {
		insist(kind > 2 || len(parts) == 1)
		told := make([]string, len(parts))
		for i, part := range parts {
			told[i] = j.formula(part)
		}
		return fmt.Sprint(kind, ".0{", strings.Join(told, ""), "}")
	}
	op := map[string]int{"<=": 1, "<": 2, "=": 3, ">=": -1, ">": -2}[head]
	insist(op != 0 && len(parts) == 2)
	turn := whole(1)
	if op < 0 {
		op, turn = -op, whole(-1)
	}
	e := plus(plus(sum{}, turn, j.expr(parts[0])), new(big.Rat).Neg(turn), j.expr(parts[1]))
	return fmt.Sprint("1.", j.keep(op, e), "{}")
}

// keep tells a new constraint as showAtom does, and its number.
func (j *judge) keep(op int, e sum) int {
	told, vars := fmt.Sprintf("op %d of", op), []int{}
	for _, v := range slices.Sorted(maps.Keys(e)) {
		if v != none && e[v].Sign() != 0 {
			told += fmt.Sprintf(" %s*v%d", e[v].RatString(), v)
			vars = append(vars, v)
		}
	}
	rest := e[none]
	if rest == nil {
		rest = new(big.Rat)
	}
	j.atoms = append(j.atoms, told+" and "+rest.RatString())
	j.terms = append(j.terms, vars)
	return len(j.atoms) - 1
}

// judged: the property of a text as showAll tells it, or the error.
func judgeOf(s string, in, out int) (told string, e api.Errno) {
	rows, _, e := sexp.Parse(s)
	if e != api.OK {
		return "", e
	}
	defer func() {
		if x := recover(); x != nil {
			_ = x.(unsorted)
			told, e = "", api.ErrSort
		}
	}()
	j := &judge{in: in}
	insist(len(rows) == 2)
	box, bad := rows[0], rows[1]
	insist(len(box.List) > 0 && box.List[0].Word == "box" && len(bad.List) == 2 && bad.List[0].Word == "bad")
	told = "box"
	ok := in > 0 && in < 33 && out > 0 && out < 33 && len(box.List) == in+1
	for _, side := range box.List[1:] {
		insist(len(side.List) == 2)
		lo, hi := j.number(side.List[0]), j.number(side.List[1])
		told += " [" + lo.RatString() + " " + hi.RatString() + "]"
		ok = ok && lo.Cmp(hi) <= 0
	}
	formula := j.formula(bad.List[1])
	if len(j.atoms) > 200 || strings.Count(formula, "{") > 20000 {
		return "", api.ErrBig
	}
	for i, a := range j.atoms {
		told += "; " + a
		ok = ok && (len(j.terms[i]) == 0 || slices.Max(j.terms[i]) < in+out)
	}
	if !ok {
		return "", api.ErrForm
	}
	return told + "; bad " + formula, api.OK
}

// short: the beginning and the end of a text.
func short(s string) string {
	if len(s) > 160 {
		return s[:80] + " .. " + s[len(s)-80:]
	}
	return s
}

// reads: is a text read as it should be?
func reads(t *testing.T, s string, in, out int) api.Errno {
	t.Helper()
	want, e := judgeOf(s, in, out)
	p, f := Parse(s, in, out)
	if e != f || e == api.OK && showAll(p) != want || e != api.OK && !isZero(p) {
		t.Fatalf("Parse(%q, %d, %d) = %s, %d, not %s, %d", short(s), in, out, short(showAll(p)), f, short(want), e)
	}
	return e
}

// says: the text of a Bad, for one number that comes in and two that come out, and what is to be said of it.
type says struct {
	bad string
	e   api.Errno
}

func check(t *testing.T, list []says) {
	t.Helper()
	for _, x := range list {
		s := "(box (0 1)) (bad " + x.bad + ")"
		if _, e := Parse(s, 1, 2); e != x.e {
			t.Errorf("Parse(%q): %d, not %d", short(s), e, x.e)
		}
		reads(t, s, 1, 2)
	}
}

// TestParseOfFormulas: each form of F, alone and within others.
func TestParseOfFormulas(t *testing.T) {
	le := with(atom.Le, 0, 0, 1)
	for _, c := range []struct {
		bad  string
		want logic.F
		n    int // how often the constraint x0 <= 0
	}{
		{"true", yes, 0}, {"false", no, 0}, {"(not true)", nots(1, yes), 0}, {"(not (not false))", nots(2, no), 0}, {"(and)", sub(logic.And), 0}, {"(or)", sub(logic.Or), 0}, {"(and true)", sub(logic.And, yes), 0}, {"(or false)", sub(logic.Or, no), 0}, {"(and true false true)", sub(logic.And, yes, no, yes), 0},
		{"(or true (and) (or) (not (or)))", sub(logic.Or, yes, sub(logic.And), sub(logic.Or), nots(1, sub(logic.Or))), 0}, {"(<= x0 0)", lit(0), 1}, {"(not (<= x0 0))", nots(1, lit(0)), 1}, {"(and (<= x0 0) (<= x0 0))", sub(logic.And, lit(0), lit(1)), 2},
		{"(or (and (<= x0 0) true) (not (<= x0 0)) (<= x0 0))", sub(logic.Or, sub(logic.And, lit(0), yes), nots(1, lit(1)), lit(2)), 3}, {"(and (or) (or (<= x0 0)) false)", sub(logic.And, sub(logic.Or), sub(logic.Or, lit(0)), no), 1},
	} {
		want := showAll(Prop{sides(0, 1), slices.Repeat([]atom.Atom{le}, c.n), c.want})
		if p, e := Parse("(box (0 1)) (bad "+c.bad+")", 1, 2); showAll(p) != want || e != api.OK {
			t.Errorf("Parse of %s = %s, %d", c.bad, showAll(p), e)
		}
		check(t, []says{{c.bad, api.OK}})
	}
}

// TestParseOfConstraints: each comparison and each form of E. Of one number in and two out, variable 0 is x0, 1 is y0, 2 is y1.
func TestParseOfConstraints(t *testing.T) {
	half := atom.Atom{Op: atom.Le, E: lin.Expr{Terms: []lin.Term{{Var: 1, Coef: frac(-3, 2)}}, Const: frac(1, 4)}}
	for _, c := range []struct {
		bad  string
		want atom.Atom
	}{
		{"(<= x0 y0)", with(1, 0, 0, 1, 1, -1)}, {"(< x0 y0)", with(2, 0, 0, 1, 1, -1)}, {"(= x0 y0)", with(3, 0, 0, 1, 1, -1)}, {"(>= x0 y0)", with(1, 0, 0, -1, 1, 1)}, {"(> x0 y0)", with(2, 0, 0, -1, 1, 1)},
		{"(<= y1 3)", with(1, -3, 2, 1)}, {"(>= y1 3)", with(1, 3, 2, -1)}, {"(= 3 y1)", with(3, 3, 2, -1)}, {"(> 3 y1)", with(2, -3, 2, 1)}, {"(< 1 2)", with(2, -1)}, {"(= 1 1)", with(3, 0)}, {"(> 1 2)", with(2, 1)},
		{"(<= (+) 0)", with(1, 0)}, {"(<= (+ 1 2 3) (+))", with(1, 6)}, {"(<= (+ x0) 0)", with(1, 0, 0, 1)}, {"(<= (+ y1 x0 y1 5) 0)", with(1, 5, 0, 1, 2, 2)}, {"(<= (+ (+ x0 y0) (+ (+ y0)) (+)) 0)", with(1, 0, 0, 1, 1, 2)}, {"(<= (+ x0 (- x0)) y1)", with(1, 0, 2, -1)},
		{"(<= (- x0) 0)", with(1, 0, 0, -1)}, {"(<= (- 5) 0)", with(1, -5)}, {"(<= (- x0 y1) 0)", with(1, 0, 0, 1, 2, -1)}, {"(<= (- 1 2) 0)", with(1, -1)}, {"(<= (- (- x0 1)) 0)", with(1, 1, 0, -1)}, {"(<= (- (- x0) (- y0 3)) 1)", with(1, 2, 0, -1, 1, -1)}, {"(<= (- x0 x0) 0)", with(1, 0)},
		{"(<= (* 2 x0) 0)", with(1, 0, 0, 2)}, {"(<= (* -2 (+ x0 3)) 0)", with(1, -6, 0, -2)}, {"(<= (* 0 x0) 1)", with(1, -1)}, {"(<= (* 0 (+ x0 y0 7)) 0)", with(1, 0)}, {"(<= (* 2 (* 3 (* -1 y1))) 0)", with(1, 0, 2, -6)}, {"(<= (* 2 3) 0)", with(1, 6)}, {"(<= (* -3/2 y0) -0.25)", half}, {"(<= (* -0 x0) -0)", with(1, 0)},
		{"(<= (* 1 x0) x0)", with(1, 0)}, {"(= (+ x0 y0) (+ y0 x0))", with(3, 0)}, {"(= (+ x0 y0 1) (+ y0 y1))", with(3, 1, 0, 1, 2, -1)}, {"(> (* 2 y1) (- y1))", with(2, 0, 2, -3)}, {"(<= 003 x0)", with(1, 3, 0, -1)}, {"(<= 010 x0)", with(1, 10, 0, -1)}, {"(<= 08/01 x0)", with(1, 8, 0, -1)}, {"(<= 6/2 -9/3)", with(1, 6)}, {"(<= 1.50 x0)", atom.Atom{Op: 1, E: lin.Expr{Terms: []lin.Term{{Var: 0, Coef: rat.Int(-1)}}, Const: frac(3, 2)}}},
		{"(<= (- y99 y99) x0)", with(1, 0, 0, -1)}, {"(<= (* 0 y999999) x0)", with(1, 0, 0, -1)}, {"(= y5 y5)", with(3, 0)}, {"(= (+ y5 x0) (+ (* 2 y5) (- y5)))", with(3, 0, 0, 1)},
	} {
		want := showAll(Prop{sides(0, 1), []atom.Atom{c.want}, lit(0)})
		if p, e := Parse("(box (0 1)) (bad "+c.bad+")", 1, 2); showAll(p) != want || e != api.OK {
			t.Errorf("Parse of %s = %s, %d", c.bad, showAll(p), e)
		}
		check(t, []says{{c.bad, api.OK}, {"(not " + c.bad + ")", api.OK}, {"(or " + c.bad + " " + c.bad + ")", api.OK}})
	}
}

// TestParseOfOtherFormulas: what is no formula.
func TestParseOfOtherFormulas(t *testing.T) {
	var list []says
	for _, bad := range []string{
		"", "true true", "True", "TRUE", "tru", "truee", "t", "x0", "y0", "0", "1", "and", "or", "not", "bad", "box", "<=", "()", "(())", "(true)", "(false)", "((and))", "((not) true)", "(not)", "(not true false)", "(not true true)", "(not not)", "(Not true)", "(AND)", "(xor true)", "(=> true true)", "(! true)",
		"(and x0)", "(or 1)", "(and and)", "(and ())", "(not ())", "(not (and x0))", "(or true (or false maybe))", "(x0)", "(0)", "(bad true)", "(+ x0 1)", "(* 2 x0)", "(- x0)", "(+)", "(<=)", "(<= x0)", "(<= x0 0 0)", "(< x0)", "(= x0)", "(= x0 x0 x0)", "(>=)", "(> 1 2 3)", "(=< x0 0)", "(== x0 0)", "(!= x0 0)", "(<> x0 0)", "(<= true false)", "(= true true)", "(<= (<= x0 0) 0)", "(<= x0 (and))", "(= (= 0 0) 0)", "((<=) x0 0)", "((<= x0 0))", "(<=x0 0)", "(<= (x0) 0)", "(<= ((+)) 0)",
	} {
		list = append(list, says{bad, api.ErrSort})
	}
	check(t, list)
}

// TestParseOfOtherExpressions: what is no expression, on both sides and within others.
func TestParseOfOtherExpressions(t *testing.T) {
	var list []says
	for _, e := range []string{
		"()", "(0)", "(x0)", "true", "z0", "a", "X0", "Y0", "x", "y", "x-1", "x+0", "x00", "y00", "x01", "y01", "y0000001", "y1000000", "y1234567", "y12345678901234567890", "x1", "x2", "x32", "x999999", "x0x", "x0.0", "y0/1", "xx0", "yx0", "_x0", "y_0", "y0_", "x0,", "'x0", "|x0|", "0x", "0x0", "1x", "-x0", "x1e1", "y1e1",
		"+1", "1.", ".5", "1/0", "0/0", "1/-2", "--1", "-", "+", "*", "1e3", "1,5", "1/2/3", "1.5/2", "1/2.5", "0x1f", "1_000", "-+1", "1-", "inf", "NaN", "1/00",
		"(-)", "(- 1 2 3)", "(- x0 x0 x0)", "(*)", "(* 2)", "(* x0)", "(* 2 x0 x0)", "(* 2 3 4)", "(* x0 2)", "(* x0 x0)", "(* (- 2) x0)", "(* (+ 2) x0)", "(* (* 1 2) x0)", "(* () x0)", "(* (2) x0)", "(* y0 x0)", "(* 1/0 x0)", "(* +2 x0)", "(* 2 ())", "(* 2 true)", "(* 0 z)", "(* 0 x1)", "(* true x0)",
		"(/ 1 2)", "(/ x0 2)", "(** x0 2)", "(++ x0)", "(abs x0)", "(max x0 y0)", "(ite true x0 y0)", "(+ true)", "(+ x0 x1)", "(+ (+ ()))", "(- (- z))", "((+) 1)", "((- 1))", "(+ (and))", "(+ (<= x0 0))", "(x0 + y0)", "(2 * x0)", "(2 x0)",
	} {
		list = append(list, says{"(<= " + e + " 0)", api.ErrSort}, says{"(> 0 " + e + ")", api.ErrSort}, says{"(= (+ x0 " + e + ") 0)", api.ErrSort}, says{"(< (- (* 0 " + e + ")) 0)", api.ErrSort}, says{"(and (<= x0 0) (not (<= " + e + " " + e + ")))", api.ErrSort})
	}
	check(t, list)
}

// TestParseOfNames: x's and y's of in, of out, of one less and one more, with noughts in front and of many digits.
func TestParseOfNames(t *testing.T) {
	for _, in := range []int{1, 2, 10, 31, 32} {
		for _, out := range []int{1, 2, 11, 32} {
			box := "(box" + strings.Repeat(" (0 1)", in) + ") "
			for _, i := range []int{0, 1, in - 1, in, in + 1, in + out - 1, out - 1, out, out + 1, 9, 10, 33, 99, 100, 999999, 1000000} {
				for _, name := range []string{"x", "y", "x0", "y0", "x-", "y+"} {
					word := name + strconv.Itoa(i)
					want := api.ErrSort
					if name == "x" && i < in || name == "y" && i < out {
						want = api.OK
					} else if name == "y" && i < 1000000 {
						want = api.ErrForm
					}
					s := box + "(bad (<= " + word + " 0))"
					p, e := Parse(s, in, out)
					if e != want {
						t.Fatalf("Parse(%q, %d, %d): %d, not %d", s, in, out, e, want)
					}
					if v := i + map[string]int{"y": in}[name]; e == api.OK && showAtom(p.Atoms[0]) != showAtom(with(1, 0, v, 1)) {
						t.Fatalf("Parse(%q, %d, %d) = %s", s, in, out, showAll(p))
					}
					reads(t, s, in, out)
				}
			}
		}
	}
}

// TestParseOfOtherWidths: with an in or out that isn't 1 to 32 a text of the right form is answered by ErrForm.
func TestParseOfOtherWidths(t *testing.T) {
	for _, in := range []int{math.MinInt, -1, 0, 1, 2, 32, 33, 1000, 2000000, math.MaxInt} {
		for _, out := range []int{math.MinInt, -1, 0, 1, 32, 33, math.MaxInt} {
			for _, c := range []struct {
				s    string
				want api.Errno
			}{
				{"(box (0 1)) (bad true)", api.ErrForm}, {"(box) (bad true)", api.ErrForm}, {"(box) (bad (<= y0 y7))", api.ErrForm}, {"(box (0 1) (1 0)) (bad (= (+ y999999 y999998) 0))", api.ErrForm}, {"(box (0 1)) (bad maybe)", api.ErrSort}, {"(box (0 1)) (bad (<= z0 1))", api.ErrSort}, {"(box", api.ErrText},
				{"(box) (bad (and" + strings.Repeat(" true", 20000) + "))", api.ErrBig}, {"(box) (bad (and" + strings.Repeat(" (<= y0 0)", 201) + "))", api.ErrBig}, {"(box (0 1)) (bad (<= x0 0))", map[bool]api.Errno{true: api.ErrForm, false: api.ErrSort}[in > 0]}, {"(box (0 1)) (bad (<= x999999 0))", map[bool]api.Errno{true: api.ErrForm, false: api.ErrSort}[in > 999999]}, {"(box (0 1)) (bad (<= x1000000 0))", api.ErrSort}, {"(box (0 1)) (bad (<= 0 x1999999))", api.ErrSort}, {"(box (0 1)) (bad (<= 0 y1000000))", api.ErrSort},
			} {
				if c.want == api.ErrForm && in == 1 && out > 0 && out < 33 {
					continue
				}
				if p, e := Parse(c.s, in, out); !isZero(p) || e != c.want {
					t.Errorf("Parse(%q, %d, %d) = %s, %d, not %d", short(c.s), in, out, short(showAll(p)), e, c.want)
				}
			}
		}
	}
}

// TestParseOfRows: in another order, doubled, left out, with a part more; boxes of other forms.
func TestParseOfRows(t *testing.T) {
	for s, want := range map[string]api.Errno{
		"(box (0 1)) (bad true)": api.OK, "(box (0 1))(bad true)": api.OK, " ( box ( 0 1 ) ) ; a remark (\n\t(bad\r\ntrue) ;": api.OK, "(box (-1/2 0.5)) (bad false)": api.OK, "(box (3 3)) (bad true)": api.OK, "(box (0 00)) (bad true)": api.OK, "(box (-0 0)) (bad true)": api.OK,
		"(box (1 0)) (bad true)": api.ErrForm, "(box (0 1) (0 1)) (bad true)": api.ErrForm, "(box) (bad true)": api.ErrForm, "(box (1/2 1/3)) (bad true)": api.ErrForm, "(box (0 -1)) (bad true)": api.ErrForm,
		"": api.ErrSort, "; nothing": api.ErrSort, "(box)": api.ErrSort, "(box (0 1))": api.ErrSort, "(bad true)": api.ErrSort, "(bad true) (box (0 1))": api.ErrSort, "(box (0 1)) (box (0 1))": api.ErrSort, "(bad true) (bad true)": api.ErrSort, "(box (0 1)) (bad true) (bad true)": api.ErrSort, "(box (0 1)) (box (0 1)) (bad true)": api.ErrSort,
		"(box (0 1)) (bad true) ()": api.ErrSort, "(box (0 1)) (bad true) true": api.ErrSort, "() (box (0 1)) (bad true)": api.ErrSort, "(box (0 1)) (bad)": api.ErrSort, "(box (0 1)) (bad true false)": api.ErrSort, "(box (0 1)) bad": api.ErrSort, "box (bad true)": api.ErrSort, "box bad": api.ErrSort, "(box (0 1)) (bad true": api.ErrText, "(box (0 1)) true": api.ErrSort,
		"((box (0 1)) (bad true))": api.ErrSort, "((box) (0 1)) (bad true)": api.ErrSort, "(box (0 1)) ((bad) true)": api.ErrSort, "(Box (0 1)) (bad true)": api.ErrSort, "(boxes (0 1)) (bad true)": api.ErrSort, "(box (0 1)) (Bad true)": api.ErrSort, "(box (0 1)) (not true)": api.ErrSort, "() ()": api.ErrSort, "(box (0 1)) ()": api.ErrSort, "() (bad true)": api.ErrSort,
		"(box 0 1) (bad true)": api.ErrSort, "(box (0)) (bad true)": api.ErrSort, "(box (0 1 2)) (bad true)": api.ErrSort, "(box ()) (bad true)": api.ErrSort, "(box ((0 1))) (bad true)": api.ErrSort, "(box (0 (1))) (bad true)": api.ErrSort, "(box ((0) 1)) (bad true)": api.ErrSort, "(box (0 x0)) (bad true)": api.ErrSort, "(box (x0 1)) (bad true)": api.ErrSort,
		"(box (0 +1)) (bad true)": api.ErrSort, "(box (0 1/0)) (bad true)": api.ErrSort, "(box (- 1)) (bad true)": api.ErrSort, "(box ((- 1) 1)) (bad true)": api.ErrSort, "(box (0 (/ 1 2))) (bad true)": api.ErrSort, "(box (0 1) x) (bad true)": api.ErrSort, "(box x (0 1)) (bad true)": api.ErrSort, "(box (0 1) ()) (bad true)": api.ErrSort, "(box (. 1)) (bad true)": api.ErrSort,
		"(": api.ErrText, ")": api.ErrText, "(box (0 1)) (bad true))": api.ErrText, "(box (0 1)) (bad \x00)": api.ErrText, "(box (0 1)) (bad true) \xff": api.ErrText, "(box (1 0)) (bad maybe)": api.ErrSort, "(box (1 0)) (bad maybe": api.ErrText, "(box (1 0) (2)) (bad (<= y9 0))": api.ErrSort, "(box (1 0)) (bad (<= y9 0))": api.ErrForm,
	} {
		if _, e := Parse(s, 1, 2); e != want {
			t.Errorf("Parse(%q): %d, not %d", s, e, want)
		}
		for _, width := range [][2]int{{1, 2}, {2, 1}, {0, 1}, {33, 33}, {1, 32}} {
			reads(t, s, width[0], width[1])
		}
	}
}

// TestParseOfLongNumbers: of as many bytes as a number's text may have, and of one more.
func TestParseOfLongNumbers(t *testing.T) {
	nines := strings.Repeat("9", 20000)
	check(t, []says{
		{"(<= x0 " + nines + ")", api.OK}, {"(<= x0 " + nines + "9)", api.ErrSort}, {"(<= (* -" + nines[1:] + " x0) 0)", api.OK}, {"(<= (* -" + nines + " x0) 0)", api.ErrSort}, {"(<= 1/" + nines[2:] + " x0)", api.OK}, {"(<= 1/" + nines[1:] + " x0)", api.ErrSort}, {"(<= 1." + nines[2:] + " x0)", api.OK}, {"(<= y" + nines + " x0)", api.ErrSort},
	})
	for s, want := range map[string]api.Errno{"(box (0 " + nines + ")) (bad true)": api.OK, "(box (0 9" + nines + ")) (bad true)": api.ErrSort, "(box (-" + nines + " 0)) (bad true)": api.ErrSort, "(box (" + nines + " 0)) (bad true)": api.ErrForm} {
		if e := reads(t, s, 1, 1); e != want {
			t.Errorf("Parse(%q): %d", short(s), e)
		}
	}
	if p, e := Parse("(box (0 "+nines+")) (bad (>= (* "+nines+" y0) (* "+nines+" "+nines+")))", 1, 1); e != api.OK || rtext.Print(p.Box[0].Hi) != nines {
		t.Errorf("%d", e)
	} else if got, e := Violates(p, []rat.Rat{p.Box[0].Hi}, []rat.Rat{p.Box[0].Hi}); !got || e != api.OK {
		t.Errorf("%v, %d", got, e)
	}
}

// TestParseAtTheLimits: constraints, nodes of formulas, brackets within one another, nodes and bytes of texts.
func TestParseAtTheLimits(t *testing.T) {
	long := strings.Repeat
	check(t, []says{
		{"(and" + long(" (<= x0 0)", 200) + ")", api.OK}, {"(and" + long(" (<= x0 0)", 201) + ")", api.ErrBig}, {"(and" + long(" (<= y7 0)", 200) + ")", api.ErrForm}, {"(and" + long(" (<= y7 0)", 201) + ")", api.ErrBig}, {"(and" + long(" (<= x0 0)", 201) + " z)", api.ErrSort}, {"(or" + long(" (<= x0 0)", 5000) + ")", api.ErrBig},
		{"(and" + long(" true", 19999) + ")", api.OK}, {"(and" + long(" true", 20000) + ")", api.ErrBig}, {"(and" + long(" (or)", 19999) + ")", api.OK}, {"(and" + long(" (or)", 20000) + ")", api.ErrBig}, {"(and" + long(" true", 20000) + " maybe)", api.ErrSort}, {"(and" + long(" true", 20000) + " (<= y7 0))", api.ErrBig}, {"(and" + long(" true", 50000) + ")", api.ErrBig},
		{"(and" + long(" true", 99992) + ")", api.ErrBig}, {long("(not ", 199) + "true" + long(")", 199), api.OK}, {long("(not ", 200) + "true" + long(")", 200), api.ErrBig}, {long("(not ", 198) + "(and)" + long(")", 198), api.OK}, {long("(not ", 199) + "(and)" + long(")", 199), api.ErrBig}, {long("(not ", 198) + "(<= x0 1)" + long(")", 198), api.OK}, {long("(not ", 199) + "(<= x0 1)" + long(")", 199), api.ErrBig},
		{"(<= " + long("(- ", 198) + "x0" + long(")", 198) + " 0)", api.OK}, {"(<= " + long("(- ", 199) + "x0" + long(")", 199) + " 0)", api.ErrBig}, {"(<= " + long("(* 2 ", 198) + "x0" + long(")", 198) + " 0)", api.OK}, {"(<= " + long("(+ y1 ", 198) + "x0" + long(")", 198) + " 0)", api.OK},
		{"(<= (+" + long(" x0", 90000) + ") 0)", api.OK}, {"(<= (+" + long(" y0 x0 1", 30000) + ") 0)", api.OK}, {"(<= (+" + long(" (* 0 y9)", 20000) + ") 0)", api.OK}, {"(or (<= (+" + long(" x0", 90000) + ") 0)", api.ErrText},
	})
	for s, want := range map[string]api.Errno{
		"(box (0 1)) (bad (<= (+" + long(" x0", 99988) + ") 0))": api.OK, "(box (0 1)) (bad (<= (+" + long(" x0", 99989) + ") 0))": api.ErrBig, "(box (0 1)) (bad true)" + long(" ", 999978): api.OK, "(box (0 1)) (bad true)" + long(" ", 999979): api.ErrBig, "(box (0 1)) (bad maybe)" + long(" ", 999977): api.ErrSort, "(box (0 1)) (bad maybe)" + long(" ", 999978): api.ErrBig, "(box (0 1)) (bad true)" + long("\n", 1000000): api.ErrBig,
	} {
		if e := reads(t, s, 1, 2); e != want {
			t.Errorf("Parse(%q), %d bytes: %d, not %d", short(s), len(s), e, want)
		}
	}
}

// TestParseOfManyVariables: names of variables that aren't there, all of them others, soon read.
func TestParseOfManyVariables(t *testing.T) {
	var terms strings.Builder
	for i := range 90000 {
		fmt.Fprintf(&terms, " y%d", i*7%90001)
	}
	for _, s := range []string{"(box (0 1)) (bad (<= (+" + terms.String() + ") 0))", "(box (0 1)) (bad (<= (- " + strings.Repeat("(+ ", 150) + "(+" + terms.String() + ")" + strings.Repeat(")", 150) + " x0) 0))"} {
		if _, e := Parse(s, 1, 1); e != api.ErrForm {
			t.Errorf("Parse(%q): %d", short(s), e)
		}
	}
}

// TestParseOfAllShortFormulas: each row of at most five of these words and brackets, and each of at most seven of some of them as
// an expression.
func TestParseOfAllShortFormulas(t *testing.T) {
	counts := map[api.Errno]int{}
	each := func(most int, words []string, around func(s string) string) {
		texts := []string{""}
		for range most {
			var longer []string
			for _, s := range texts {
				for _, word := range words {
					longer = append(longer, s+" "+word)
				}
			}
			for _, s := range longer {
				counts[reads(t, around(s), 1, 1)]++
			}
			texts = longer
		}
	}
	each(5, []string{"(", ")", "<=", "x0", "2", "or", "true", "not", "-"}, func(s string) string { return "(box (0 1)) (bad" + s + ")" })
	each(7, []string{"(", ")", "+", "*", "x0", "2"}, func(s string) string { return "(box (0 1)) (bad (>= y0" + s + "))" })
	if counts[api.OK] < 40 || counts[api.ErrSort] < 1000 || counts[api.ErrText] < 1000 {
		t.Errorf("%v", counts)
	}
}

// text: the text of a formula at haphazard, seldom a wrong one.
func (s *some) text(deep, in, out int) string {
	if deep == 0 || s.below(4) == 0 {
		if s.below(5) == 0 {
			return []string{"true", "false"}[s.below(2)]
		}
		return "(" + []string{"<=", "<", "=", ">=", ">"}[s.below(5)] + " " + s.exprText(3, in, out) + " " + s.exprText(3, in, out) + ")"
	}
	parts := ""
	kind := s.below(3)
	for range []int{1, s.below(4), s.below(4)}[kind] {
		parts += " " + s.text(deep-1, in, out)
	}
	return "(" + []string{"not", "and", "or"}[kind] + parts + ")"
}

func (s *some) exprText(deep, in, out int) string {
	kind := s.below(6)
	if deep == 0 {
		kind = s.below(2)
	}
	switch kind {
	case 0:
		return []string{"0", "1", "-1", "1/2", "-3/2", "0.5", "-0.25", "2/4", "010", "-0"}[s.below(10)]
	case 1:
		if s.below(2) == 0 {
			return fmt.Sprint("x", s.below(in))
		}
		return fmt.Sprint("y", s.below(out+s.below(20)/19))
	case 2:
		parts := ""
		for range s.below(4) {
			parts += " " + s.exprText(deep-1, in, out)
		}
		return "(+" + parts + ")"
	case 3:
		return "(- " + s.exprText(deep-1, in, out) + ")"
	case 4:
		return "(- " + s.exprText(deep-1, in, out) + " " + s.exprText(deep-1, in, out) + ")"
	}
	return "(* " + []string{"0", "1", "-1", "1/2", "-3/2", "0.5", "12"}[s.below(7)] + " " + s.exprText(deep-1, in, out) + ")"
}

// textOf: the text of a property at haphazard, for so many numbers.
func (s *some) textOf(in, out int) string {
	box := "(box"
	for range in {
		box += fmt.Sprintf(" (%d %d)", -s.below(4), s.below(4))
	}
	return box + ") (bad " + s.text(s.below(4), in, out) + ")"
}

// TestParseOfMany: texts at haphazard; and such as have had a word or a bracket exchanged, left out or put in.
func TestParseOfMany(t *testing.T) {
	s, counts := some(15), map[api.Errno]int{}
	for range 10000 {
		in, out := 1+s.below(3), 1+s.below(3)
		text := s.textOf(in, out)
		counts[reads(t, text, in, out)]++
		words := strings.Fields(strings.NewReplacer("(", " ( ", ")", " ) ").Replace(text))
		at := s.below(len(words))
		put := []string{"(", ")", "()", "x0", "y0", "x3", "y5", "1", "-1/2", "and", "not", "+", "-", "*", "<=", ">", "true", "what", "(+)", "(and)"}[s.below(20)]
		switch s.below(3) {
		case 0:
			words = slices.Insert(words, at, put)
		case 1:
			words = slices.Delete(words, at, at+1)
		default:
			words[at] = put
		}
		counts[reads(t, strings.Join(words, " "), in, out)]++
	}
	if counts[api.OK] < 5000 || counts[api.ErrSort] < 1000 || counts[api.ErrForm] < 100 || counts[api.ErrText] < 1000 {
		t.Errorf("%v", counts)
	}
}

func TestPrint(t *testing.T) {
	mixed := []atom.Atom{with(1, 5, 0, 1), with(2, -3, 2, 2, 0, -1, 1, 1), with(3, 0), with(1, 0, 1, 0), {Op: 2, E: lin.Expr{Terms: []lin.Term{{Var: 1, Coef: frac(-1, 2)}, {Var: 1, Coef: frac(-1, 3)}}, Const: frac(3, 4)}}, with(1, 0, 0, 2, 1, 4)}
	box := []Side{{frac(-1, 2), rat.Int(3)}}
	for _, c := range []struct {
		bad  logic.F
		want string
	}{
		{yes, "true"}, {no, "false"}, {logic.F{Kind: logic.True, Atom: 99}, "true"}, {nots(1, yes), "(not true)"}, {sub(logic.And), "(and)"}, {sub(logic.Or), "(or)"}, {sub(logic.And, no), "(and false)"}, {sub(logic.Or, yes, no, nots(2, no)), "(or true false (not (not false)))"},
		{lit(0), "(<= (+ (* 1 x0)) -5)"}, {lit(1), "(< (+ (* -1 x0) (* 1 y0) (* 2 y1)) 3)"}, {lit(2), "(= (+) 0)"}, {lit(3), "(<= (+) 0)"}, {lit(4), "(< (+ (* -5/6 y0)) -3/4)"}, {lit(5), "(<= (+ (* 2 x0) (* 4 y0)) 0)"}, {nots(1, lit(0)), "(not (<= (+ (* 1 x0)) -5))"}, {sub(logic.And, lit(2), lit(0), lit(2)), "(and (= (+) 0) (<= (+ (* 1 x0)) -5) (= (+) 0))"},
		{sub(logic.Or, sub(logic.And, lit(3), sub(logic.Or)), lit(2)), "(or (and (<= (+) 0) (or)) (= (+) 0))"},
	} {
		want := "(box (-1/2 3))\n(bad " + c.want + ")\n"
		if got, e := Print(Prop{box, mixed, c.bad}, 1, 2); got != want || e != api.OK {
			t.Errorf("Print of %s = %q, %d", showFormula(c.bad), got, e)
		}
	}
	if got, e := Print(Prop{sides(0, 1, -7, -7), []atom.Atom{with(1, 0, 1, 1, 2, 1)}, lit(0)}, 2, 1); got != "(box (0 1) (-7 -7))\n(bad (<= (+ (* 1 x1) (* 1 y0)) 0))\n" || e != api.OK {
		t.Errorf("%q, %d", got, e)
	}
	last := Prop{unit(32), []atom.Atom{with(1, 0, 31, 1, 32, 1, 63, 1)}, lit(0)}
	if got, e := Print(last, 32, 32); !strings.HasSuffix(got, "(bad (<= (+ (* 1 x31) (* 1 y0) (* 1 y31)) 0))\n") || e != api.OK {
		t.Errorf("%q, %d", got, e)
	}
}

// TestPrintOfCases: the error of Check and no text; of the others a text that is read again.
func TestPrintOfCases(t *testing.T) {
	for _, c := range cases() {
		text, e := Print(c.p, c.in, c.out)
		if c.want == api.OK && e == api.ErrBig && text == "" {
			continue
		}
		if e != c.want || e != api.OK && text != "" {
			t.Errorf("Print of %s: %q, %d, not %d", c.name, short(text), e, c.want)
		}
	}
}

// TestParseOfPrint: what is printed is read as a property that is violated at the same points, and printed as the same text.
func TestParseOfPrint(t *testing.T) {
	s := some(17)
	for range 4000 {
		p, in, out := s.prop()
		text, e := Print(p, in, out)
		if e != api.OK {
			t.Fatalf("Print(%s): %d", showAll(p), e)
		}
		reads(t, text, in, out)
		q, e := Parse(text, in, out)
		if e != api.OK {
			t.Fatalf("Parse(%q): %d", text, e)
		}
		if again, e := Print(q, in, out); again != text || e != api.OK {
			t.Fatalf("Print(Parse(%q)) = %q, %d", text, again, e)
		}
		for range 5 {
			x, y := s.point(in), s.point(out)
			for i, side := range p.Box {
				x[i] = []rat.Rat{x[i], side.Lo, side.Hi}[s.below(3)]
			}
			one, e := Violates(p, x, y)
			two, f := Violates(q, x, y)
			if one != two || e != api.OK || f != api.OK {
				t.Fatalf("%s and %q at %s, %s: %v, %v", showAll(p), text, show(x), show(y), one, two)
			}
		}
	}
}

// TestPrintOfParse: what is read is printed as a text that says the same.
func TestPrintOfParse(t *testing.T) {
	s := some(19)
	for range 3000 {
		in, out := 1+s.below(3), 1+s.below(3)
		p, e := Parse(s.textOf(in, out), in, out)
		if e != api.OK {
			continue
		}
		text, e := Print(p, in, out)
		if q, f := Parse(text, in, out); showAll(q) != showAll(p) || e != api.OK || f != api.OK {
			t.Fatalf("Parse(%q) = %s, %d, not %s", text, showAll(q), f, showAll(p))
		}
	}
}

// TestPrintOfDeepFormulas: brackets within one another up to the limit of layer 12, and one more.
func TestPrintOfDeepFormulas(t *testing.T) {
	atoms := []atom.Atom{with(1, 0, 0, 1), with(1, 0)}
	for _, c := range []struct {
		name  string
		inner logic.F
		most  int
	}{{"true", yes, 199}, {"and of none", sub(logic.And), 198}, {"or of false", sub(logic.Or, no), 198}, {"without terms", lit(1), 197}, {"of a term", lit(0), 196}, {"and of a term", sub(logic.And, lit(0)), 195}} {
		for n := c.most - 2; n < 200; n++ {
			p := Prop{unit(1), atoms, nots(n, c.inner)}
			if Check(p, 1, 1) != api.OK {
				continue
			}
			text, e := Print(p, 1, 1)
			if want := map[bool]api.Errno{true: api.OK, false: api.ErrBig}[n <= c.most]; e != want || (e == api.OK) != (text != "") {
				t.Errorf("%d Nots around %s: %q, %d, not %d", n, c.name, short(text), e, want)
			}
			if e == api.OK {
				reads(t, text, 1, 1)
			}
		}
	}
}

// TestPrintOfManyNodes: as many nodes as a text may have, and one more. (More than 200 Lits are printed, though such a text says
// more constraints than a property may have.)
func TestPrintOfManyNodes(t *testing.T) {
	lits := slices.Repeat([]logic.F{lit(0)}, 19998)
	atoms := []atom.Atom{with(1, 0)}
	for _, c := range []struct {
		last logic.F
		want api.Errno
	}{{yes, api.OK}, {sub(logic.And), api.ErrBig}, {lit(0), api.ErrBig}} {
		text, e := Print(Prop{unit(1), atoms, sub(logic.And, append(slices.Clone(lits), c.last)...)}, 1, 1)
		if e != c.want || (e == api.OK) != (text != "") {
			t.Errorf("%d bytes, %d, not %d", len(text), e, c.want)
		}
		if rows, _, e := sexp.Parse(text); e != api.OK || text != "" && len(rows) != 2 {
			t.Errorf("%d rows, %d", len(rows), e)
		}
	}
}

// longText: a property of 25 Sides whose text has so many bytes: its numbers have some 20000 digits.
func longText(t *testing.T, bytes int) Prop {
	t.Helper()
	p := Prop{Bad: yes}
	digits := func(n int) rat.Rat {
		r, e := rtext.Parse(strings.Repeat("9", n))
		if e != api.OK {
			t.Fatal(e)
		}
		return r
	}
	least := digits(19999)
	for range 25 {
		p.Box = append(p.Box, Side{rat.Neg(least), least})
	}
	// (box and its bracket, of each side the brackets, the sign and the blanks; the second row; two line ends.
	have := len("(box)\n(bad true)\n") + 25*len(" (- )") + 49*19999
	p.Box[24].Hi = digits(bytes - have)
	return p
}

// TestPrintOfLongTexts: as many bytes as a text may have, and one more; and such as nobody has room for.
func TestPrintOfLongTexts(t *testing.T) {
	sameSide := func(a, b Side) bool { return rat.Cmp(a.Lo, b.Lo) == 0 && rat.Cmp(a.Hi, b.Hi) == 0 }
	for bytes, want := range map[int]api.Errno{1000000: api.OK, 1000001: api.ErrBig} {
		p := longText(t, bytes)
		text, e := Print(p, 25, 1)
		if e != want || e == api.OK && len(text) != bytes || e != api.OK && text != "" {
			t.Errorf("%d bytes, %d, not %d, %d", len(text), e, bytes, want)
		}
		if q, f := Parse(text, 25, 1); e == api.OK && (f != api.OK || !slices.EqualFunc(q.Box, p.Box, sameSide)) {
			t.Errorf("%d bytes: %d", bytes, f)
		}
	}
	great, _ := rtext.Parse(strings.Repeat("9", 20000))
	a := with(1, 0, 0, 1, 1, 1)
	a.E.Const, a.E.Terms[0].Coef, a.E.Terms[1].Coef = great, great, great
	for _, lits := range []int{16, 17, 200, 6000, 19999} {
		text, e := Print(Prop{unit(1), []atom.Atom{a, a}, sub(logic.Or, slices.Repeat([]logic.F{lit(1)}, lits)...)}, 1, 1)
		if want := map[bool]api.Errno{true: api.OK, false: api.ErrBig}[lits < 17]; e != want || (e == api.OK) != (text != "") {
			t.Errorf("%d times 60000 bytes: %d bytes, %d", lits, len(text), e)
		}
	}
	// A few bytes often: the limit is met within the formula.
	for lits, want := range map[int]api.Errno{1: api.OK, 200: api.OK, 9999: api.OK} {
		text, e := Print(Prop{unit(1), []atom.Atom{with(1, 7)}, sub(logic.Or, slices.Repeat([]logic.F{lit(0)}, lits)...)}, 1, 1)
		if e != want || len(text) != len("(box (0 1))\n(bad (or))\n")+lits*len(" (<= (+) -7)") {
			t.Errorf("%d times a few bytes: %d bytes, %d", lits, len(text), e)
		}
	}
}

// TestPrintOfBytes: the limit of bytes is met by the parts of a formula too, each of its brackets and blanks counted.
func TestPrintOfBytes(t *testing.T) {
	great, _ := rtext.Parse(strings.Repeat("9", 4900))
	a := with(1, 0)
	a.E.Const = rat.Neg(great)
	parts := slices.Repeat([]logic.F{lit(0)}, 200)
	parts = append(parts, sub(logic.And), nots(3, sub(logic.Or)), no)
	have, e := Print(Prop{unit(1), []atom.Atom{a}, sub(logic.Or, parts...)}, 1, 1)
	if e != api.OK {
		t.Fatalf("%d", e)
	}
	for more, want := range map[int]api.Errno{1: api.OK, 0: api.OK, -1: api.ErrBig} {
		text, e := Print(Prop{unit(1), []atom.Atom{a}, sub(logic.Or, append(slices.Clone(parts), pads(1000000-len(have)-more)...)...)}, 1, 1)
		if e != want || e == api.OK && len(text) != 1000000-more || e != api.OK && text != "" {
			t.Errorf("%d bytes, %d, not %d", len(text), e, want)
		}
	}
}

// pads: formulas that take so many bytes, from 20 on, the blanks ahead of them too.
func pads(bytes int) []logic.F {
	sixes := bytes % 5
	return append(slices.Repeat([]logic.F{no}, sixes), slices.Repeat([]logic.F{yes}, (bytes-6*sixes)/5)...)
}

// TestPrintOfGreatNumbers: Print names no limit of digits, so that the text of a great number is printed too.
func TestPrintOfGreatNumbers(t *testing.T) {
	r, _ := rtext.Parse(strings.Repeat("9", 20000))
	square := rat.Mul(r, r)
	want := "(box (0 " + rtext.Print(square) + "))\n(bad true)\n"
	if text, e := Print(Prop{[]Side{{rat.Rat{}, square}}, nil, yes}, 1, 1); text != want || e != api.OK {
		t.Errorf("Print = %q, %d", short(text), e)
	}
}

// TestWhatIsNotAskedFor: a constraint that the formula doesn't speak of isn't printed.
func TestWhatIsNotAskedFor(t *testing.T) {
	p := Prop{unit(1), []atom.Atom{with(1, 1, 0, 1), with(2, 2, 1, 1), with(3, 3)}, nots(1, lit(1))}
	text, e := Print(p, 1, 1)
	if text != "(box (0 1))\n(bad (not (< (+ (* 1 y0)) -2)))\n" || e != api.OK {
		t.Errorf("%q, %d", text, e)
	}
	if q, e := Parse(text, 1, 1); showAll(q) != showAll(Prop{unit(1), []atom.Atom{with(2, 2, 1, 1)}, nots(1, lit(0))}) || e != api.OK {
		t.Errorf("%s, %d", showAll(q), e)
	}
}

// TestExamples: those of the chapter, and those of the document's properties.
func TestExamples(t *testing.T) {
	p, e := Parse("(box (0 1)) (bad (> y0 (* 2 x0)))", 1, 1)
	if showAll(p) != showAll(Prop{sides(0, 1), []atom.Atom{with(2, 0, 0, 2, 1, -1)}, lit(0)}) || e != api.OK {
		t.Errorf("%s, %d", showAll(p), e)
	}
	if got, e := Violates(p, ints(1), ints(3)); !got || e != api.OK {
		t.Errorf("%v, %d", got, e)
	}
	if got, e := Violates(p, ints(2), ints(9)); got || e != api.OK {
		t.Errorf("%v, %d", got, e)
	}
	if got, e := Print(p, 1, 1); got != "(box (0 1))\n(bad (< (+ (* 2 x0) (* -1 y0)) 0))\n" || e != api.OK {
		t.Errorf("%q, %d", got, e)
	}
	for s, want := range map[string]api.Errno{"(box (1 0)) (bad true)": api.ErrForm, "(box (0 1)) (bad (<= x1 0))": api.ErrSort, "(box (0 1)) (bad (<= y1 0))": api.ErrForm, "(box)": api.ErrSort, "(": api.ErrText} {
		if p, e := Parse(s, 1, 1); !isZero(p) || e != want {
			t.Errorf("Parse(%q): %d", s, e)
		}
	}
	for _, c := range []struct {
		s       string
		in, out int
		x, y    []rat.Rat
		want    bool
	}{
		{"(box (-1 1)) (bad (>= y0 2))", 1, 1, ints(1), ints(1), false}, {"(box (-1 1)) (bad (>= y0 1))", 1, 1, ints(1), ints(1), true}, {"(box (-1 1)) (bad (and (>= y0 0) (< x0 -1/2)))", 1, 1, ints(-1), ints(0), true}, {"(box (-1 1)) (bad (and (>= y0 0) (< x0 -1/2)))", 1, 1, []rat.Rat{frac(-1, 2)}, ints(0), false},
		{"(box (-1 1) (-1 1)) (bad (> y0 2))", 2, 1, ints(1, 1), ints(2), false}, {"(box (-1 1) (-1 1)) (bad (>= y0 2))", 2, 1, ints(1, -1), ints(2), true}, {"(box (0 1) (0 1)) (bad (< y0 x1))", 2, 1, ints(0, 1), ints(1), false}, {"(box (0 1)) (bad (= y0 1/3))", 1, 1, []rat.Rat{frac(1, 3)}, []rat.Rat{frac(1, 3)}, true}, {"(box (0 1)) (bad false)", 1, 1, ints(0), ints(0), false}, {"(box (0 1)) (bad true)", 1, 1, ints(0), ints(0), true},
	} {
		p, e := Parse(c.s, c.in, c.out)
		if e != api.OK {
			t.Errorf("Parse(%q): %d", c.s, e)
		}
		if got, e := Violates(p, c.x, c.y); got != c.want || e != api.OK {
			t.Errorf("%q at %s, %s: %v, %d", c.s, show(c.x), show(c.y), got, e)
		}
	}
}
