package smt

import (
	"fmt"
	"math/big"
	"regexp"
	"slices"
	"strconv"
	"strings"
	"testing"

	"attest/api"
	"attest/atom"
	"attest/lin"
	"attest/rat"
	"attest/sexp"
)

// term: a number as SMT-LIB writes it.
func term(r *big.Rat) string {
	out := new(big.Rat).Abs(r).RatString()
	if above, below, ok := strings.Cut(out, "/"); ok {
		out = "(/ " + above + " " + below + ")"
	}
	if r.Sign() < 0 {
		out = "(- " + out + ")"
	}
	return out
}

// told: the lines of a problem's script.
func told(p Problem) []string {
	out := []string{"(set-logic QF_LRA)"}
	for i := range p.Reals {
		out = append(out, fmt.Sprintf("(declare-const x%d Real)", i))
	}
	for i := range p.Bools {
		out = append(out, fmt.Sprintf("(declare-const p%d Bool)", i))
	}
	for i, a := range p.Atoms {
		var parts []string
		for _, t := range a.E.Terms {
			part := fmt.Sprintf("x%d", t.Var)
			if c := term(value(t.Coef)); c != "1" {
				part = fmt.Sprintf("(* %s %s)", c, part)
			}
			parts = append(parts, part)
		}
		sum := strings.Join(parts, " ")
		if len(parts) != 1 {
			sum = "(+ " + sum + ")"
		}
		rest := value(a.E.Const)
		out = append(out, fmt.Sprintf("(define-fun a%d () Bool (%s %s %s))", i, []string{"", "<=", "<", "="}[a.Op], sum, term(rest.Neg(rest))))
	}
	for _, c := range p.Clauses {
		var parts []string
		for _, l := range c {
			part := fmt.Sprintf("p%d", max(l, -l)-1)
			if v := max(l, -l) - 1 - p.Bools; v >= 0 {
				part = fmt.Sprintf("a%d", v)
			}
			if l < 0 {
				part = "(not " + part + ")"
			}
			parts = append(parts, part)
		}
		switch len(parts) {
		case 0:
			out = append(out, "(assert false)")
		case 1:
			out = append(out, "(assert "+parts[0]+")")
		default:
			out = append(out, "(assert (or "+strings.Join(parts, " ")+"))")
		}
	}
	return append(out, "(check-sat)")
}

func text(lines []string) string {
	return strings.Join(lines, "\n") + "\n"
}

const (
	anyNat = `(?:0|[1-9][0-9]*)`
	// As rtext.Smt writes one.
	anySize   = `(?:` + anyNat + `|\(/ ` + anyNat + ` ` + anyNat + `\))`
	anyNumber = `(?:` + anySize + `|\(- ` + anySize + `\))`
	anyPart   = `(?:x` + anyNat + `|\(\* ` + anyNumber + ` x` + anyNat + `\))`
	anySum    = `(?:` + anyPart + `|\(\+(?: ` + anyPart + `){2,}\))`
	anyLit    = `(?:[pa]` + anyNat + `|\(not [pa]` + anyNat + `\))`
)

var (
	isReal   = regexp.MustCompile(`^\(declare-const x(` + anyNat + `) Real\)$`)
	isBool   = regexp.MustCompile(`^\(declare-const p(` + anyNat + `) Bool\)$`)
	isDefine = regexp.MustCompile(`^\(define-fun a(` + anyNat + `) \(\) Bool \((<=|<|=) (` + anySum + `) (` + anyNumber + `)\)\)$`)
	isAssert = regexp.MustCompile(`^\(assert (?:(false)|(` + anyLit + `)|\(or((?: ` + anyLit + `){2,})\))\)$`)
	parts    = regexp.MustCompile(anyPart)
	lits     = regexp.MustCompile(anyLit)
	nats     = regexp.MustCompile(anyNat)
)

// meant: the number of a term; false: it isn't written so.
func meant(s string) (rat.Rat, bool) {
	r := new(big.Rat)
	numbers := nats.FindAllString(s, -1)
	for _, n := range numbers {
		if len(n) > 20000 {
			return rat.Rat{}, false
		}
	}
	if _, ok := r.SetString(strings.Join(numbers, "/")); !ok {
		return rat.Rat{}, false
	}
	den, _ := rat.Inv(parsed(r.Denom().String()))
	out := rat.Mul(parsed(r.Num().String()), den)
	if strings.HasPrefix(s, "(-") {
		r.Neg(r)
		out = rat.Neg(out)
	}
	return out, term(r) == s
}

// judge: what Parse should say, line by line.
func judge(s string) (Problem, api.Errno) {
	rows, _, e := sexp.Parse(s)
	if e != api.OK {
		return Problem{}, e
	}
	printed, _ := sexp.Print(rows)
	lines := strings.Split(printed, "\n")
	lines = lines[:len(lines)-1]
	take := func(form *regexp.Regexp, number int) []string {
		if len(lines) == 0 {
			return nil
		}
		found := form.FindStringSubmatch(lines[0])
		if found == nil || number >= 0 && found[1] != strconv.Itoa(number) {
			return nil
		}
		lines = lines[1:]
		return found
	}
	if take(regexp.MustCompile(`^\(set-logic QF_LRA\)$`), -1) == nil {
		return Problem{}, api.ErrSort
	}
	var p Problem
	for take(isReal, p.Reals) != nil {
		p.Reals++
	}
	for take(isBool, p.Bools) != nil {
		p.Bools++
	}
	for found := take(isDefine, 0); found != nil; found = take(isDefine, len(p.Atoms)) {
		a, ok := constraint(found)
		if !ok {
			return Problem{}, api.ErrSort
		}
		p.Atoms = append(p.Atoms, a)
	}
	for found := take(isAssert, -1); found != nil; found = take(isAssert, -1) {
		var c []int
		for _, l := range lits.FindAllString(found[2]+found[3], -1) {
			n, _ := strconv.Atoi(nats.FindString(l))
			v := n + 1
			if strings.Contains(l, "a") {
				v += p.Bools
			} else if n >= p.Bools {
				return Problem{}, api.ErrSort
			}
			c = append(c, map[bool]int{true: -v, false: v}[l[0] == '('])
		}
		p.Clauses = append(p.Clauses, c)
	}
	if len(lines) != 1 || lines[0] != "(check-sat)" || !isNoted(p) {
		return Problem{}, api.ErrSort
	}
	return p, api.OK
}

// constraint: that of a row whose parts these are; false: a number isn't written so.
func constraint(found []string) (atom.Atom, bool) {
	a := atom.Atom{Op: map[string]int{"<=": atom.Le, "<": atom.Lt, "=": atom.Eq}[found[2]]}
	rest, ok := meant(found[4])
	a.E.Const = rat.Neg(rest)
	for _, part := range parts.FindAllString(found[3], -1) {
		number, name, scaled := strings.Cut(part, " x")
		v, _ := strconv.Atoi(strings.Trim(name, ")"))
		coef := rat.Int(1)
		if !scaled {
			v, _ = strconv.Atoi(part[1:])
		} else {
			c, fine := meant(strings.TrimPrefix(number, "(* "))
			coef, ok = c, ok && fine && rat.Cmp(c, rat.Int(1)) != 0
		}
		a.E.Terms = append(a.E.Terms, lin.Term{Var: v, Coef: coef})
	}
	return a, ok
}

// short: the beginning of a text.
func short(s string) string {
	return s[:min(len(s), 2000)]
}

// reads: is a text answered as it should be?
func reads(t *testing.T, s string) (Problem, api.Errno) {
	t.Helper()
	want, e := judge(s)
	got, f := Parse(s)
	if !same(got, want) || f != e {
		t.Fatalf("Parse: %s, %d; not %s, %d; of\n%s", short(showAll(got)), f, short(showAll(want)), e, short(s))
	}
	return got, f
}

func TestPrint(t *testing.T) {
	s := some(31)
	for range 2000 {
		p := s.tidy()
		got, e := Print(p)
		if want := text(told(p)); got != want || e != api.OK {
			t.Fatalf("Print(%s) = %d\n%s", showAll(p), e, got)
		}
		if q, e := Parse(got); !same(q, p) || e != api.OK {
			t.Fatalf("Parse of Print(%s) = %s, %d", showAll(p), showAll(q), e)
		}
		reads(t, got)
	}
}

// TestPrintOfCases: the error of Check and no text; or the script, which is read again.
func TestPrintOfCases(t *testing.T) {
	for _, c := range cases() {
		want := c.want
		if c.name == "all at their limits" {
			want = api.ErrBig // it has more nodes than a text may have
		}
		got, e := Print(c.p)
		if e != want || e == api.OK && got != text(told(c.p)) || e != api.OK && got != "" {
			t.Errorf("Print of %s: %d\n%s", c.name, e, short(got))
			continue
		}
		if q, f := Parse(got); e == api.OK && (!same(q, c.p) || f != api.OK) {
			t.Errorf("Parse of Print of %s: %d", c.name, f)
		}
	}
}

// TestPrintOfNumbers: below 0, whole ones, fractions, factors 1 and -1.
func TestPrintOfNumbers(t *testing.T) {
	for _, x := range []struct {
		number rat.Rat
		want   string
	}{
		{rat.Rat{}, "0"}, {rat.Int(1), "1"}, {rat.Int(-1), "(- 1)"}, {rat.Int(7), "7"}, {rat.Int(-70), "(- 70)"}, {frac(1, 2), "(/ 1 2)"}, {frac(-1, 2), "(- (/ 1 2))"}, {frac(-22, 7), "(- (/ 22 7))"}, {frac(10, 3), "(/ 10 3)"},
	} {
		for op, sign := range map[int]string{atom.Le: "<=", atom.Lt: "<", atom.Eq: "="} {
			a := with(op, 0, 0, 1)
			a.E.Const = rat.Neg(x.number)
			coef := "(* " + x.want + " x2)"
			if x.want == "1" {
				coef = "x2"
			}
			b := with(op, 5, 1, 1, 2, 1)
			b.E.Terms[1].Coef = x.number
			want := "(set-logic QF_LRA)\n(declare-const x0 Real)\n(declare-const x1 Real)\n(declare-const x2 Real)\n(define-fun a0 () Bool (" + sign + " x0 " + x.want + "))\n"
			p := Problem{Reals: 3, Atoms: []atom.Atom{a}}
			if x.want != "0" {
				p.Atoms = append(p.Atoms, b)
				want += "(define-fun a1 () Bool (" + sign + " (+ x1 " + coef + ") (- 5)))\n"
			}
			want += "(check-sat)\n"
			if got, e := Print(p); got != want || e != api.OK {
				t.Errorf("Print: %d\n%snot\n%s", e, got, want)
			}
			if got, e := Parse(want); !same(got, p) || e != api.OK {
				t.Errorf("Parse: %s, %d\n%s", showAll(got), e, want)
			}
		}
	}
	p := Problem{Reals: 1, Atoms: []atom.Atom{with(atom.Le, 2, 0, -1)}}
	want := "(set-logic QF_LRA)\n(declare-const x0 Real)\n(define-fun a0 () Bool (<= (* (- 1) x0) (- 2)))\n(check-sat)\n"
	if got, e := Print(p); got != want || e != api.OK {
		t.Errorf("Print: %d\n%s", e, got)
	}
}

// TestScriptsOfLittle: of problems without variables, constraints or clauses.
func TestScriptsOfLittle(t *testing.T) {
	for _, x := range []struct {
		p    Problem
		want string
	}{
		{Problem{}, "(set-logic QF_LRA)\n(check-sat)\n"}, {Problem{Clauses: [][]int{nil}}, "(set-logic QF_LRA)\n(assert false)\n(check-sat)\n"}, {Problem{Clauses: [][]int{nil, {}}}, "(set-logic QF_LRA)\n(assert false)\n(assert false)\n(check-sat)\n"},
		{Problem{Reals: 1}, "(set-logic QF_LRA)\n(declare-const x0 Real)\n(check-sat)\n"}, {Problem{Bools: 1}, "(set-logic QF_LRA)\n(declare-const p0 Bool)\n(check-sat)\n"},
		{Problem{Bools: 1, Clauses: [][]int{{1}, {-1}, {1, -1}}}, "(set-logic QF_LRA)\n(declare-const p0 Bool)\n(assert p0)\n(assert (not p0))\n(assert (or p0 (not p0)))\n(check-sat)\n"},
		{Problem{Reals: 1, Atoms: []atom.Atom{with(atom.Eq, 0, 0, 1)}}, "(set-logic QF_LRA)\n(declare-const x0 Real)\n(define-fun a0 () Bool (= x0 0))\n(check-sat)\n"},
		{Problem{Reals: 1, Bools: 1, Atoms: []atom.Atom{with(atom.Lt, 0, 0, 1)}, Clauses: [][]int{{-2}, {2}, {-1, -2}}}, "(set-logic QF_LRA)\n(declare-const x0 Real)\n(declare-const p0 Bool)\n(define-fun a0 () Bool (< x0 0))\n(assert (not a0))\n(assert a0)\n(assert (or (not p0) (not a0)))\n(check-sat)\n"},
	} {
		if got, e := Print(x.p); got != x.want || e != api.OK {
			t.Errorf("Print(%s) = %q, %d", showAll(x.p), got, e)
		}
		if got, e := Parse(x.want); !same(got, x.p) || e != api.OK {
			t.Errorf("Parse(%q) = %s, %d", x.want, showAll(got), e)
		}
	}
}

// digitsOf: a number of so many digits.
func digitsOf(n int) rat.Rat {
	return rat.Add(ten(n-1), rat.Int(1))
}

// TestPrintOfLongNumbers: 20000 digits and one more, in num and in den, in constants and in factors.
func TestPrintOfLongNumbers(t *testing.T) {
	invert := func(r rat.Rat) rat.Rat { out, _ := rat.Inv(r); return out }
	for _, x := range []struct {
		name   string
		number rat.Rat
		want   api.Errno
	}{
		{"20000 digits", digitsOf(20000), api.OK}, {"20001 digits", digitsOf(20001), api.ErrBig}, {"20000 in den", invert(digitsOf(20000)), api.OK}, {"20001 in den", invert(digitsOf(20001)), api.ErrBig},
		{"the greatest of 20000", rat.Sub(ten(20000), rat.Int(1)), api.OK}, {"the least of 20001", ten(20000), api.ErrBig}, {"-20000 digits", rat.Neg(digitsOf(20000)), api.OK}, {"-20001 digits", rat.Neg(digitsOf(20001)), api.ErrBig},
		{"20000 in both", rat.Mul(digitsOf(20000), invert(ten(19999))), api.OK}, {"20001 in num, 20000 in den", rat.Mul(rat.Add(ten(20000), rat.Int(1)), invert(ten(19999))), api.ErrBig}, {"20000 in num, 20001 in den", rat.Mul(digitsOf(20000), invert(ten(20000))), api.ErrBig},
		{"25000 digits", digitsOf(25000), api.ErrBig}, {"-25000 in den", rat.Neg(invert(digitsOf(25000))), api.ErrBig}, {"20400 digits", digitsOf(20400), api.ErrBig},
	} {
		a, b := with(atom.Le, 0, 0, 1), with(atom.Le, 3, 0, 1, 1, 1)
		a.E.Const, b.E.Terms[1].Coef = x.number, x.number
		for i, p := range []Problem{{Reals: 2, Atoms: []atom.Atom{a}}, {Reals: 2, Atoms: []atom.Atom{with(atom.Eq, 3, 0, 1), b}}} {
			got, e := Print(p)
			if e != x.want || e != api.OK && got != "" || e == api.OK && got != text(told(p)) {
				t.Errorf("Print %d of %s: %d, %d bytes", i, x.name, e, len(got))
			}
			if q, f := Parse(got); e == api.OK && (!same(q, p) || f != api.OK) {
				t.Errorf("Parse %d of %s: %d", i, x.name, f)
			}
			if q, f := Parse(text(told(p))); e != api.OK && (!isZero(q) || f != api.ErrSort) {
				t.Errorf("Parse %d of %s: %d", i, x.name, f)
			}
		}
	}
}

// ofNodes: a problem whose script has so many nodes.
func ofNodes(nodes int) Problem {
	p := Problem{Bools: 64}
	left := nodes - 3 - 2 - 4*64
	for ; left > 68; left -= 34 {
		p.Clauses = append(p.Clauses, upTo(30))
	}
	p.Clauses = append(p.Clauses, upTo(left-4))
	return p
}

func TestPrintOfManyNodes(t *testing.T) {
	for nodes, want := range map[int]api.Errno{99999: api.OK, 100000: api.OK, 100001: api.ErrBig, 100002: api.ErrBig, 130000: api.ErrBig} {
		p := ofNodes(nodes)
		if e := Check(p); e != api.OK {
			t.Fatalf("a wrong problem of %d nodes: %d", nodes, e)
		}
		got, e := Print(p)
		if e != want || e == api.OK && got != text(told(p)) || e != api.OK && got != "" {
			t.Errorf("Print of %d nodes: %d, %d bytes", nodes, e, len(got))
		}
		if q, e := Parse(text(told(p))); e != want || e == api.OK && !same(q, p) || e != api.OK && !isZero(q) {
			t.Errorf("Parse of %d nodes: %d", nodes, e)
		}
	}
}

// ofBytes: a problem whose script has so many bytes: constraints of long numbers.
func ofBytes(bytes int) Problem {
	p := Problem{Reals: 1}
	digits := func(n, i int) rat.Rat { return rat.Add(ten(n-1), rat.Int(i)) }
	for i := range 1900 {
		a := with(atom.Le, 0, 0, 1)
		a.E.Const = digits(450, i)
		p.Atoms = append(p.Atoms, a)
	}
	for left := bytes - len(text(told(p))); left > 0; left = bytes - len(text(told(p))) {
		a := with(atom.Lt, 0, 0, 1)
		row := len("(define-fun a1900 () Bool (< x0 (- ))\n)")
		n := min(left-row, 18000)
		if left-row-n > 0 && left-row-n < 100 {
			n -= 100
		}
		a.E.Const = digits(n, len(p.Atoms))
		p.Atoms = append(p.Atoms, a)
	}
	return p
}

func TestPrintOfManyBytes(t *testing.T) {
	for bytes, want := range map[int]api.Errno{999999: api.OK, 1000000: api.OK, 1000001: api.ErrBig} {
		p := ofBytes(bytes)
		all := text(told(p))
		if e := Check(p); e != api.OK || len(all) != bytes {
			t.Fatalf("a wrong problem of %d bytes, not %d: %d", len(all), bytes, e)
		}
		got, e := Print(p)
		if e != want || e == api.OK && got != all || e != api.OK && got != "" {
			t.Errorf("Print of %d bytes: %d, %d bytes", bytes, e, len(got))
		}
		if q, e := Parse(all); e != want || e == api.OK && !same(q, p) || e != api.OK && !isZero(q) {
			t.Errorf("Parse of %d bytes: %d", bytes, e)
		}
	}
}

// TestPrintOfFarTooMuch: it is soon told, of many long numbers and of very many terms.
func TestPrintOfFarTooMuch(t *testing.T) {
	big, wide := with(atom.Le, 0), with(atom.Le, 0)
	for v := range 400 {
		big.E.Terms = append(big.E.Terms, lin.Term{Var: v, Coef: rat.Int(1)})
		wide.E.Terms = append(wide.E.Terms, lin.Term{Var: v, Coef: frac(v+1, v+2)})
	}
	wide.E.Terms[0].Coef = rat.Int(1)
	p := Problem{Reals: 400}
	for i := range 300 {
		wide.E.Const = rat.Int(i)
		p.Atoms = append(p.Atoms, wide)
	}
	if got, e := Print(p); got != "" || e != api.ErrBig {
		t.Errorf("Print of 120000 terms: %d", e)
	}
	q := Problem{Reals: 400}
	for i := range 60 {
		big.E.Const = rat.Add(digitsOf(19000), rat.Int(i))
		q.Atoms = append(q.Atoms, big)
	}
	if got, e := Print(q); got != "" || e != api.ErrBig {
		t.Errorf("Print of 60 long numbers: %d", e)
	}
}

// sample: a script with each kind of rows and of what stands in them.
func sample() Problem {
	third := with(atom.Eq, 0, 0, 1, 2, -2)
	third.E.Terms = append(third.E.Terms, lin.Term{Var: 3, Coef: frac(-3, 4)})
	half := with(atom.Le, 0, 0, -1)
	half.E.Const = frac(3, 2)
	return Problem{4, 2, []atom.Atom{half, with(atom.Lt, 5, 1, 1), third}, [][]int{{1, -2, 3}, {-4}, nil, {5}, {1, -1, 5, -5}}}
}

func TestSample(t *testing.T) {
	want := `(set-logic QF_LRA)
(declare-const x0 Real)
(declare-const x1 Real)
(declare-const x2 Real)
(declare-const x3 Real)
(declare-const p0 Bool)
(declare-const p1 Bool)
(define-fun a0 () Bool (<= (* (- 1) x0) (- (/ 3 2))))
(define-fun a1 () Bool (< x1 (- 5)))
(define-fun a2 () Bool (= (+ x0 (* (- 2) x2) (* (- (/ 3 4)) x3)) 0))
(assert (or p0 (not p1) a0))
(assert (not a1))
(assert false)
(assert a2)
(assert (or p0 (not p0) a2 (not a2)))
(check-sat)
`
	if got, e := Print(sample()); got != want || e != api.OK {
		t.Errorf("Print: %d\n%s", e, got)
	}
	if got, e := Parse(want); !same(got, sample()) || e != api.OK {
		t.Errorf("Parse: %s, %d", showAll(got), e)
	}
}

// TestParseOfRows: each row left out, doubled, exchanged with its neighbour, put in front and at the end.
func TestParseOfRows(t *testing.T) {
	said := map[api.Errno]int{}
	for _, p := range []Problem{sample(), {1, 1, bounds(2), [][]int{{1}, {1}, {2, 3}}}, {}, {Reals: 2}, {Bools: 3, Clauses: [][]int{nil}}} {
		rows := told(p)
		for i, row := range rows {
			without := slices.Delete(slices.Clone(rows), i, i+1)
			changed := [][]string{without, slices.Insert(slices.Clone(rows), i, row), append([]string{row}, without...), append(slices.Clone(without), row), rows[:i], rows[i:]}
			if i > 0 {
				exchanged := slices.Clone(rows)
				exchanged[i-1], exchanged[i] = exchanged[i], exchanged[i-1]
				changed = append(changed, exchanged)
			}
			for _, other := range changed {
				_, e := reads(t, text(other))
				said[e]++
			}
		}
	}
	if said[api.OK] < 20 || said[api.ErrSort] < 100 {
		t.Errorf("%v", said)
	}
	// What each row's want and doubling means, one by one: only clauses may come and go, and what nobody speaks of.
	rows, p := told(sample()), sample()
	for i, row := range rows {
		_, e := Parse(text(slices.Delete(slices.Clone(rows), i, i+1)))
		q, f := Parse(text(slices.Insert(slices.Clone(rows), i, row)))
		isClause := strings.HasPrefix(row, "(assert")
		if (e == api.OK) != isClause || (f == api.OK) != isClause || e != api.OK && e != api.ErrSort || f != api.OK && f != api.ErrSort {
			t.Errorf("%s: %d without it, %d with two", row, e, f)
		}
		if isClause && len(q.Clauses) != len(p.Clauses)+1 {
			t.Errorf("%s: %d clauses with two", row, len(q.Clauses))
		}
	}
}

var tokens = regexp.MustCompile(`[()]|[^() \n]+`)

// others: what may stand in a token's place.
var others = []string{
	"x0", "x1", "x3", "x4", "x00", "x01", "x+1", "x-1", "x", "x1_", "X0", "y0", "p0", "p1", "p2", "p00", "p+0", "p-1", "p", "a0", "a1", "a2", "a3", "a00", "a01", "a-1", "a", "a99999999999999999999", "p9223372036854775807", "x100001", "x18446744073709551616",
	"false", "true", "or", "and", "not", "Real", "Bool", "Int", "real", "<=", "<", "=", ">=", ">", "=>", "+", "-", "*", "/", "0", "1", "2", "3", "5", "-1", "-5", "+1", "1.0", "0.0", "1.5", ".5", "01", "00", "3/2", "1/2", "3/4", "1e1", "0x1",
	"()", "(- 1)", "(- 2)", "(- 5)", "(- 0)", "(- (- 1))", "(- (- (- 5)))", "(-1)", "(- -1)", "(- 3 2)", "(-)", "(/ 3 2)", "(/ 6 4)", "(/ 3 1)", "(/ 3 0)", "(/ 0 1)", "(/ -3 2)", "(/ (- 3) 2)", "(/ 3 (- 2))", "(/ 3 4)", "(/ 1.5 2)", "(/ 3 2 1)", "(/ 3)", "(- (/ 3 2))", "(- (/ 6 4))", "(- 1.5)", "(- 3/4)",
	"(not p0)", "(not a0)", "(not (not p0))", "(not (not a2))", "(not x0)", "(not)", "(not p0 p1)", "(not false)", "(or)", "(or p0)", "(or p0 p1)", "(or p1 p0)", "(or p0 a2)", "(or false p0)", "(or p0 (or p1 a0))", "(or p0 p0)", "(or (not p0) p0)", "(and p0 p1)",
	"(+ x0)", "(+)", "(+ x0 x1)", "(+ x1 x0)", "(+ x0 x0)", "(+ x0 0)", "(* 1 x0)", "(* 2 x0)", "(* 0 x0)", "(* x0 2)", "(* (- 1) x0)", "(* (- 1) x1)", "(* -1 x0)", "(* 2 3)", "(* (/ 1 2) x0)", "(- x0)", "(- x0 x1)", "(+ x0 (* 2 x1))", "(+ x0 (* 1 x1))", "(+ x0 (* (- 3) x1))", "(+ (* 2 x0) x1)", "(+ x0 (+ x1 x2))",
	"set-logic", "QF_LRA", "QF_LIA", "declare-const", "declare-fun", "define-fun", "define-const", "assert", "check-sat", "exit", "(", ")", "x1 x2", "p0 p1", "() ()", "|x0|", "\"x0\"", ":named", "",
}

// TestParseOfWords: each word and bracket of scripts left out, doubled, exchanged with the next, and exchanged for others.
func TestParseOfWords(t *testing.T) {
	said, least := map[api.Errno]int{}, map[api.Errno]int{api.OK: 100, api.ErrSort: 10000, api.ErrText: 500}
	for _, p := range []Problem{sample(), {2, 1, []atom.Atom{with(atom.Le, 0, 0, 1, 1, 1), with(atom.Le, -1, 0, 1)}, [][]int{{1, 2}, {3}}}, {}} {
		s := text(told(p))
		for _, ends := range tokens.FindAllStringIndex(s, -1) {
			before, word, behind := s[:ends[0]], s[ends[0]:ends[1]], s[ends[1]:]
			for _, other := range append(others, word+" "+word, word+"0", "0"+word, word+" x0", word+";") {
				_, e := reads(t, before+other+behind)
				said[e]++
			}
			if next := tokens.FindStringIndex(behind); next != nil {
				reads(t, before+behind[next[0]:next[1]]+behind[:next[0]]+word+" "+behind[next[1]:])
			}
		}
	}
	for e, n := range least {
		if said[e] < n {
			t.Errorf("%v", said)
		}
	}
}

// TestParseOfManyChanges: several at a time, of problems at haphazard.
func TestParseOfManyChanges(t *testing.T) {
	s, said := some(37), map[api.Errno]int{}
	for range 4000 {
		words := strings.Fields(strings.NewReplacer("(", " ( ", ")", " ) ").Replace(text(told(s.tidy()))))
		for range 1 + s.below(3) {
			i := s.below(len(words))
			switch s.below(4) {
			case 0:
				words = slices.Delete(words, i, min(i+1+s.below(3), len(words)))
			case 1:
				words = slices.Insert(words, i, others[s.below(len(others))])
			case 2:
				words[i] = others[s.below(len(others))]
			case 3:
				j := s.below(len(words))
				words[i], words[j] = words[j], words[i]
			}
		}
		_, e := reads(t, strings.Join(words, " "))
		said[e]++
	}
	if said[api.ErrSort] < 500 || said[api.ErrText] < 500 {
		t.Errorf("%v", said)
	}
}

// TestParseOfBlanks: blanks, line ends and remarks between make no difference.
func TestParseOfBlanks(t *testing.T) {
	s := text(told(sample()))
	for _, between := range []string{" ", "  ", "\t", "\n", "\r", "\r\n", "\n\n", " ; a remark\n", ";\n", "; (check-sat)\n", " ;;; ( \n\t"} {
		spread := between + tokens.ReplaceAllStringFunc(s, func(word string) string { return word + between })
		if got, e := Parse(spread); !same(got, sample()) || e != api.OK {
			t.Errorf("with %q between: %s, %d", between, showAll(got), e)
		}
	}
	tight := strings.NewReplacer("\n", "", ") (", ")(").Replace(s)
	for _, other := range []string{tight, s + "; the end", s + ";", strings.TrimSuffix(s, "\n"), "; the beginning\n" + s, strings.ReplaceAll(s, "\n", " ; a row\n")} {
		if got, e := Parse(other); !same(got, sample()) || e != api.OK {
			t.Errorf("%s: %s, %d", other, showAll(got), e)
		}
	}
}

// TestParseOfOtherTexts: such as are no rows, and rows that are none of a script.
func TestParseOfOtherTexts(t *testing.T) {
	const begin, end = "(set-logic QF_LRA)", "(check-sat)"
	for s, want := range map[string]api.Errno{
		"": api.ErrSort, " \n": api.ErrSort, "; nothing": api.ErrSort, "(": api.ErrText, ")": api.ErrText, "a\x00": api.ErrText, begin + end + ")": api.ErrText, begin + "(check-sat": api.ErrText, begin + end + "\x80": api.ErrText,
		strings.Repeat("(", 201): api.ErrBig, strings.Repeat("(", 200): api.ErrText, strings.Repeat("a ", 100001): api.ErrBig, strings.Repeat("a ", 100000): api.ErrSort, strings.Repeat(" ", 1000001): api.ErrBig, strings.Repeat(" ", 1000000): api.ErrSort,
		begin + end: api.OK, begin: api.ErrSort, end: api.ErrSort, end + begin: api.ErrSort, begin + begin + end: api.ErrSort, begin + end + end: api.ErrSort, "set-logic QF_LRA check-sat": api.ErrSort, begin + "check-sat": api.ErrSort,
		begin + "()" + end: api.ErrSort, begin + "(exit)" + end: api.ErrSort, begin + "x0" + end: api.ErrSort, "(" + begin + end + ")": api.ErrSort, "(" + begin + ")" + end: api.ErrSort, begin + "(check-sat )": api.OK, begin + "((check-sat))": api.ErrSort,
		"(set-logic QF_LIA)" + end: api.ErrSort, "(set-logic)" + end: api.ErrSort, "(set-logic QF_LRA QF_LRA)" + end: api.ErrSort, "(set-logic (QF_LRA))" + end: api.ErrSort, "(Set-logic QF_LRA)" + end: api.ErrSort, begin + "(check-sat 1)": api.ErrSort,
		begin + "(declare-const x0 Real)" + end: api.OK, begin + "(declare-const x1 Real)" + end: api.ErrSort, begin + "(declare-const x00 Real)" + end: api.ErrSort, begin + "(declare-const x0 (Real))" + end: api.ErrSort, begin + "(declare-const x0 Int)" + end: api.ErrSort,
		begin + "(declare-const p0 Real)" + end: api.ErrSort, begin + "(declare-const x0 Bool)" + end: api.ErrSort, begin + "(declare-const p0 Bool)(declare-const x0 Real)" + end: api.ErrSort, begin + "(declare-fun x0 () Real)" + end: api.ErrSort, begin + "(declare-const x0)" + end: api.ErrSort,
		begin + "(declare-const x0 Real)(define-fun a0 () Bool (<= x0 0))(assert a0)(declare-const p0 Bool)" + end: api.ErrSort, begin + "(assert false)(declare-const x0 Real)" + end: api.ErrSort, begin + "(assert true)" + end: api.ErrSort, begin + "(assert (false))" + end: api.ErrSort,
		begin + "(assert)" + end: api.ErrSort, begin + "(assert false false)" + end: api.ErrSort, begin + "(assert (or))" + end: api.ErrSort, begin + "(assert ())" + end: api.ErrSort, begin + "(assert p0)" + end: api.ErrSort, begin + "(declare-const p0 Bool)(assert (or p0))" + end: api.ErrSort,
	} {
		got, e := Parse(s)
		if e != want || e != api.OK && !isZero(got) {
			t.Errorf("Parse(%q) = %s, %d", short(s), showAll(got), e)
		}
		reads(t, s)
	}
}

// TestParseOfOtherConstraints: each written otherwise than the script of a problem in form writes it.
func TestParseOfOtherConstraints(t *testing.T) {
	for row, want := range map[string]api.Errno{
		"(<= x0 1)": api.OK, "(< x0 1)": api.OK, "(= x0 1)": api.OK, "(>= x0 1)": api.ErrSort, "(> x0 1)": api.ErrSort, "(<= 1 x0)": api.ErrSort, "(<= x0)": api.ErrSort, "(<= x0 1 2)": api.ErrSort, "<=": api.ErrSort, "true": api.ErrSort, "()": api.ErrSort,
		"(<= x0 1.5)": api.ErrSort, "(<= x0 1.0)": api.ErrSort, "(<= x0 3/2)": api.ErrSort, "(<= x0 -1)": api.ErrSort, "(<= x0 01)": api.ErrSort, "(<= x0 (/ 3 2))": api.OK, "(<= x0 (/ 6 4))": api.ErrSort, "(<= x0 (/ 4 2))": api.ErrSort, "(<= x0 (/ 2 1))": api.ErrSort,
		"(<= x0 (/ 0 5))": api.ErrSort, "(<= x0 (/ 5 0))": api.ErrSort, "(<= x0 (- 1))": api.OK, "(<= x0 (- 0))": api.ErrSort, "(<= x0 0)": api.OK, "(<= x0 (- (- 1)))": api.ErrSort, "(<= x0 (- (/ 3 2)))": api.OK, "(<= x0 (/ (- 3) 2))": api.ErrSort, "(<= x0 (/ 3 (- 2)))": api.ErrSort,
		"(<= x0 (/ (/ 3 2) 2))": api.ErrSort, "(<= x0 (/ 3 2 1))": api.ErrSort, "(<= x0 (+ 1))": api.ErrSort, "(<= x0 x1)": api.ErrSort, "(<= (+ x0 x1) 0)": api.OK, "(<= (+ x1 x0) 0)": api.ErrSort, "(<= (+ x0 x0) 0)": api.ErrSort, "(<= (+ x0) 0)": api.ErrSort, "(<= (+) 0)": api.ErrSort,
		"(<= (* 1 x0) 0)": api.ErrSort, "(<= (* 2 x0) 0)": api.ErrSort, "(<= (* 0 x0) 0)": api.ErrSort, "(<= (* (- 1) x0) 0)": api.OK, "(< (* (- 1) x0) 0)": api.OK, "(= (* (- 1) x0) 0)": api.ErrSort, "(<= (* (- 2) x0) 0)": api.ErrSort, "(<= (* -1 x0) 0)": api.ErrSort, "(<= (- x0) 0)": api.ErrSort,
		"(<= (+ x0 (* 2 x1)) 0)": api.OK, "(<= (+ x0 (* 1 x1)) 0)": api.ErrSort, "(<= (+ x0 (* 0 x1)) 0)": api.ErrSort, "(<= (+ x0 (* x1 2)) 0)": api.ErrSort, "(<= (+ x0 (* 2 x2)) 0)": api.ErrSort, "(<= (+ (* 2 x0) x1) 0)": api.ErrSort, "(<= (+ x0 (* (/ 1 2) x1)) 0)": api.OK, "(<= (+ x0 1) 0)": api.ErrSort,
		"(<= x2 0)": api.ErrSort, "(<= x1 0)": api.OK, "(<= x01 0)": api.ErrSort, "(<= x-1 0)": api.ErrSort, "(<= p0 0)": api.ErrSort, "(<= 0 0)": api.ErrSort, "(<= a0 0)": api.ErrSort, "(= (+ x0 (* (- (/ 22 7)) x1)) (- (/ 1 3)))": api.OK, "((<=) x0 1)": api.ErrSort, "(<= (x0) 1)": api.ErrSort, "(<= x0 (1))": api.ErrSort,
	} {
		s := "(set-logic QF_LRA)(declare-const x0 Real)(declare-const x1 Real)(define-fun a0 () Bool " + row + ")(assert a0)(check-sat)"
		if got, e := Parse(s); e != want || e != api.OK && !isZero(got) {
			t.Errorf("%s: %s, %d", row, showAll(got), e)
		}
		reads(t, s)
	}
	for _, s := range []string{"(define-fun a1 () Bool (<= x0 0))", "(define-fun a00 () Bool (<= x0 0))", "(define-fun a0 Bool (<= x0 0))", "(define-fun a0 () Real (<= x0 0))", "(define-fun a0 (x0) Bool (<= x0 0))", "(define-fun a0 () Bool (<= x0 0) 0)", "(define-fun a0 () (Bool) (<= x0 0))", "(define-fun p0 () Bool (<= x0 0))"} {
		if got, e := Parse("(set-logic QF_LRA)(declare-const x0 Real)" + s + "(check-sat)"); !isZero(got) || e != api.ErrSort {
			t.Errorf("%s: %s, %d", s, showAll(got), e)
		}
	}
	two := "(set-logic QF_LRA)(declare-const x0 Real)(define-fun a0 () Bool (<= x0 0))(define-fun a1 () Bool (<= x0 0))(check-sat)"
	if got, e := Parse(two); !isZero(got) || e != api.ErrSort {
		t.Errorf("two alike: %s, %d", showAll(got), e)
	}
}

// TestParseOfLongNumbers: in form or not, but no longer than a number of a text may be.
func TestParseOfLongNumbers(t *testing.T) {
	nines := strings.Repeat("9", 20000)
	for num, want := range map[string]api.Errno{
		nines: api.OK, nines + "9": api.ErrSort, "(- " + nines + ")": api.OK, "(- " + nines + "9)": api.ErrSort, "(/ 1 " + nines + ")": api.OK, "(/ 1 " + nines + "9)": api.ErrSort, "(/ " + nines + " 2)": api.OK, "(/ " + nines + "9 2)": api.ErrSort,
		"(/ " + nines + " 1" + nines[1:] + ")": api.OK, "(/ " + nines + " 4" + nines[1:] + ")": api.OK, "(/ " + nines + " 6" + nines[1:] + ")": api.ErrSort, "(/ " + nines + " 1" + strings.Repeat("0", 19999) + ")": api.OK, "0" + nines[1:]: api.ErrSort, "0." + nines[2:]: api.ErrSort, "(/ 0." + nines[2:] + " " + nines + ")": api.ErrSort,
	} {
		s := "(set-logic QF_LRA)(declare-const x0 Real)(define-fun a0 () Bool (<= x0 " + num + "))(check-sat)"
		got, e := reads(t, s)
		if e != want || e == api.OK && len(got.Atoms) != 1 {
			t.Errorf("%d bytes: %d", len(num), e)
		}
	}
}

// TestParseOfDeepTexts: numbers and literals that are wrapped often.
func TestParseOfDeepTexts(t *testing.T) {
	for n := range 190 {
		nots := strings.Repeat("(not ", n) + "p0" + strings.Repeat(")", n)
		minus := strings.Repeat("(- ", n) + "1" + strings.Repeat(")", n)
		for _, row := range []string{"(assert " + nots + ")", "(assert (or " + nots + " a0))", "(define-fun a1 () Bool (<= x0 " + minus + "))", "(define-fun a1 () Bool (<= (+ x0 (* " + minus + " x1)) 5))"} {
			reads(t, "(set-logic QF_LRA)(declare-const x0 Real)(declare-const x1 Real)(declare-const p0 Bool)(define-fun a0 () Bool (<= x0 0))"+row+"(check-sat)")
		}
	}
}

// TestParseOfGreatProblems: a problem may be in form and too great; its script says just its rows, so it is read, though it
// isn't printed.
func TestParseOfGreatProblems(t *testing.T) {
	for _, c := range limits() {
		if c.want != api.ErrBig || c.p.Reals > 1000 || c.p.Bools > 2000 || !isNoted(c.p) {
			continue
		}
		if got, e := Parse(text(told(c.p))); !same(got, c.p) || e != api.OK {
			t.Errorf("Parse of %s: %d", c.name, e)
		}
	}
}

// TestExamplesOfScripts: those of the chapter.
func TestExamplesOfScripts(t *testing.T) {
	a := with(atom.Le, 0, 0, 1)
	a.E.Const = frac(-3, 2)
	p := Problem{1, 1, []atom.Atom{a}, [][]int{{1, -2}, {2}, nil}}
	rows := []string{"(set-logic QF_LRA)", "(declare-const x0 Real)", "(declare-const p0 Bool)", "(define-fun a0 () Bool (<= x0 (/ 3 2)))", "(assert (or p0 (not a0)))", "(assert a0)", "(assert false)", "(check-sat)"}
	want := text(rows)
	if got, e := Print(p); got != want || e != api.OK {
		t.Errorf("%s, %d", got, e)
	}
	for _, s := range []string{text(rows[:7]), strings.Replace(want, "(/ 3 2)", "1.5", 1)} {
		if got, e := Parse(s); !isZero(got) || e != api.ErrSort {
			t.Errorf("Parse(%q) = %s, %d", s, showAll(got), e)
		}
	}
	if got, e := Parse(strings.ReplaceAll(want, " ", " ; a remark\n\t")); !same(got, p) || e != api.OK {
		t.Errorf("%s, %d", showAll(got), e)
	}
	if got, e := Parse("("); !isZero(got) || e != api.ErrText {
		t.Errorf("%s, %d", showAll(got), e)
	}
}
