package smt

import (
	"fmt"
	"math"
	"slices"
	"testing"

	"attest/api"
	"attest/atom"
	"attest/rat"
)

// byHand: what Tidy should answer of a problem that it takes, looked for one by one.
func byHand(p Problem) Problem {
	out := Problem{Reals: p.Reals, Bools: p.Bools}
	name := map[int]string{} // of each variable: what a literal above 0 says
	places := map[string]int{"true": math.MaxInt}
	for v := 1; v <= p.Bools; v++ {
		name[v] = fmt.Sprint("truth ", v)
		places[name[v]] = v
	}
	for i, a := range p.Atoms {
		canon, says, _ := atom.Canon(a)
		v := p.Bools + 1 + i
		name[v] = []string{show(canon), "true", "false"}[says]
		if _, seen := places[name[v]]; !seen && says == atom.Open {
			out.Atoms = append(out.Atoms, canon)
			places[name[v]] = p.Bools + len(out.Atoms)
		}
	}
	for _, c := range p.Clauses {
		said := map[int]bool{}
		for _, l := range c {
			switch what := name[max(l, -l)]; {
			case what == "true" && l > 0, what == "false" && l < 0:
				said[0] = true
			case what == "true", what == "false":
			case l > 0:
				said[places[what]] = true
			default:
				said[-places[what]] = true
			}
		}
		var left []int
		open := !said[0]
		for v := 1; v <= p.Bools+len(out.Atoms); v++ {
			open = open && !(said[v] && said[-v])
			if said[v] {
				left = append(left, v)
			} else if said[-v] {
				left = append(left, -v)
			}
		}
		if open {
			out.Clauses = append(out.Clauses, left)
		}
	}
	return out
}

// TestTidy: as by hand; it is in form, stays as it is, and holds where the other one does.
func TestTidy(t *testing.T) {
	s, said, made := some(21), map[bool]int{}, map[string]int{}
	for range 5000 {
		p := []func() Problem{s.tidy, s.loose}[s.below(4)/3]()
		got, e := Tidy(p)
		if want := byHand(p); !same(got, want) || e != api.OK {
			t.Fatalf("Tidy(%s) = %s, %d; not %s", showAll(p), showAll(got), e, showAll(want))
		}
		if e := Check(got); e != api.OK {
			t.Fatalf("Tidy(%s) = %s: %d", showAll(p), showAll(got), e)
		}
		if again, e := Tidy(got); !same(again, got) || e != api.OK {
			t.Fatalf("Tidy(%s) = %s, %d", showAll(got), showAll(again), e)
		}
		for range 5 {
			xs, bs := s.points()
			holds, _ := Holds(got, xs, bs)
			if holds != isTrue(p, xs, bs) {
				t.Fatalf("%s and %s at %v, %v: %v", showAll(p), showAll(got), xs, bs, holds)
			}
			said[holds]++
		}
		made[fmt.Sprint(len(p.Atoms) > len(got.Atoms), len(p.Clauses) > len(got.Clauses))]++
	}
	if said[true] < 1000 || said[false] < 1000 || len(made) != 4 || slices.Min([]int{made["true true"], made["true false"], made["false true"], made["false false"]}) < 200 {
		t.Errorf("%v, %v", said, made)
	}
}

// TestTidyOfEachKind: constraints that are simply true or false, as literals and as opposites; alike ones; clauses that lose
// all their literals, that become alike, and that are left out.
func TestTidyOfEachKind(t *testing.T) {
	yes, no, x, twice, minus := with(atom.Le, 0), with(atom.Lt, 0), with(atom.Lt, -1, 0, 1), with(atom.Lt, -2, 0, 2), with(atom.Lt, 1, 0, -1)
	cancel, scattered := with(atom.Eq, 1, 1, 5, 1, -5), with(atom.Lt, -3, 1, 2, 0, 1, 1, -2, 0, 2, 1, 0)
	for _, c := range []struct {
		name    string
		atoms   []atom.Atom
		clauses [][]int
		left    []atom.Atom
		want    [][]int
	}{
		{"nothing", nil, nil, nil, nil}, {"clauses of nothing", nil, [][]int{nil, {}}, nil, [][]int{nil, nil}}, {"true", []atom.Atom{yes}, [][]int{{2}}, nil, nil}, {"its opposite", []atom.Atom{yes}, [][]int{{-2}}, nil, [][]int{nil}},
		{"false", []atom.Atom{no}, [][]int{{2}}, nil, [][]int{nil}}, {"its opposite", []atom.Atom{no}, [][]int{{-2}}, nil, nil}, {"true, and others", []atom.Atom{yes, x}, [][]int{{3, 2}, {-2, 3}, {1, -2}}, []atom.Atom{x}, [][]int{{2}, {1}}},
		{"false, and others", []atom.Atom{x, no}, [][]int{{3, 2}, {-3, 2}, {1, 3, -2}}, []atom.Atom{x}, [][]int{{2}, {1, -2}}}, {"cancelled terms", []atom.Atom{cancel, x}, [][]int{{2}, {-2, 1}, {2, -3}}, []atom.Atom{x}, [][]int{nil, {-2}}},
		{"alike ones", []atom.Atom{x, twice, scattered}, [][]int{{2}, {3}, {4}, {-3}, {2, 3, 4}, {2, -4}, {-4, 3}, {-4, -2, -1}}, []atom.Atom{x}, [][]int{{2}, {2}, {2}, {-2}, {2}, {-1, -2}}},
		{"the first form counts", []atom.Atom{twice, minus, x, minus}, [][]int{{5, 4}, {3}, {-2}}, []atom.Atom{x, minus}, [][]int{{2, 3}, {3}, {-2}}}, {"alike closed ones", []atom.Atom{yes, yes, no, no, cancel}, [][]int{{-2, -3, 4, 5, 6}, {4, 6}, {1, 5}}, nil, [][]int{nil, nil, {1}}},
		{"opposites of a truth", nil, [][]int{{1, -1}, {-1, 1}, {1, 1}, {-1, -1, -1}, {1}}, nil, [][]int{{1}, {-1}, {1}}}, {"opposites of a constraint", []atom.Atom{x}, [][]int{{2, -2}, {-2, 2, 1}, {2, 1, 2}}, []atom.Atom{x}, [][]int{{1, 2}}},
		{"opposites and what is false", []atom.Atom{no, x}, [][]int{{2, 3, -3}, {3, 2, 2}}, []atom.Atom{x}, [][]int{{2}}}, {"constraints that say the opposite", []atom.Atom{x, with(atom.Le, 1, 0, -1)}, [][]int{{2, 3}}, []atom.Atom{x, with(atom.Le, 1, 0, -1)}, [][]int{{2, 3}}},
		{"nothing to say", []atom.Atom{yes, no, yes}, nil, nil, nil}, {"no clause speaks of it", []atom.Atom{twice}, [][]int{{1}}, []atom.Atom{x}, [][]int{{1}}},
	} {
		got, e := Tidy(Problem{2, 1, c.atoms, c.clauses})
		if want := (Problem{2, 1, c.left, c.want}); !same(got, want) || e != api.OK {
			t.Errorf("%s: %s, %d; not %s", c.name, showAll(got), e, showAll(want))
		}
	}
}

// TestTidyOfWrongOnes: only what can't be tidied is refused; a variable that stands in a Term counts, whatever its factor.
func TestTidyOfWrongOnes(t *testing.T) {
	for _, c := range limits() {
		got, e := Tidy(c.p)
		want := c.want
		if c.name == "one literal 64 times" {
			want = api.OK
		}
		if e != want || e != api.OK && !isZero(got) {
			t.Errorf("Tidy of %s: %s, %d", c.name, showAll(got), e)
		}
	}
	for _, c := range both() {
		if got, e := Tidy(c.p); e != api.ErrBig || !isZero(got) {
			t.Errorf("Tidy of %s: %s, %d", c.name, showAll(got), e)
		}
	}
	for _, x := range []struct {
		p    Problem
		want api.Errno
	}{
		{Problem{Reals: 1, Atoms: []atom.Atom{with(atom.Le, 0, 1, 0)}}, api.ErrForm}, {Problem{Reals: 1, Atoms: []atom.Atom{with(atom.Le, 0, 1, 1, 1, -1)}}, api.ErrForm}, {Problem{Reals: 2, Atoms: []atom.Atom{with(atom.Le, 0, 1, 0)}}, api.OK},
		{Problem{Reals: 1, Atoms: []atom.Atom{with(atom.Le, 0, 0, 3, -1, 0)}}, api.ErrForm}, {Problem{Reals: 1, Atoms: []atom.Atom{with(atom.Le, 0, 0, 3, math.MinInt, 1)}}, api.ErrForm}, {Problem{Atoms: []atom.Atom{with(atom.Le, 0, 0, 0)}}, api.ErrForm},
		{Problem{Atoms: []atom.Atom{with(atom.Le, 0)}}, api.OK}, {Problem{Atoms: []atom.Atom{with(0, 0)}}, api.ErrForm}, {Problem{Reals: 1, Atoms: []atom.Atom{with(atom.Le, 0, 0, 1), with(4, 0, 0, 1)}}, api.ErrForm}, {Problem{Reals: 400, Atoms: []atom.Atom{with(atom.Le, 0, 399, 2)}}, api.OK},
		{Problem{Bools: 2, Clauses: [][]int{{2}}}, api.OK}, {Problem{Bools: 2, Clauses: [][]int{{3}}}, api.ErrForm}, {Problem{Bools: 2, Clauses: [][]int{{1}, {1, -3}}}, api.ErrForm}, {Problem{Bools: 2, Clauses: [][]int{{1, -1, 0}}}, api.ErrForm}, {Problem{Bools: 2, Clauses: [][]int{{math.MinInt}}}, api.ErrForm},
		{Problem{Bools: 2, Clauses: [][]int{{math.MaxInt}}}, api.ErrForm}, {Problem{Bools: 2, Clauses: [][]int{{-math.MaxInt, 1}}}, api.ErrForm}, {Problem{Bools: 1, Atoms: []atom.Atom{with(atom.Le, 0), with(atom.Le, 1)}, Clauses: [][]int{{3, 1}, {-3}}}, api.OK},
		{Problem{Bools: 1, Atoms: []atom.Atom{with(atom.Le, 0), with(atom.Le, 1)}, Clauses: [][]int{{2, 4}}}, api.ErrForm}, {Problem{Bools: 1, Atoms: []atom.Atom{with(atom.Le, 0), with(atom.Le, 1)}, Clauses: [][]int{{2, -4}}}, api.ErrForm},
		{Problem{Bools: 1, Atoms: []atom.Atom{with(atom.Le, 0)}, Clauses: [][]int{{2, 0}}}, api.ErrForm}, {Problem{Reals: -1, Clauses: [][]int{nil}}, api.ErrForm}, {Problem{Bools: -1, Atoms: bounds(0)}, api.ErrForm},
	} {
		got, e := Tidy(x.p)
		if e != x.want || e != api.OK && !isZero(got) {
			t.Errorf("Tidy(%s) = %s, %d", showAll(x.p), showAll(got), e)
		}
	}
}

// TestTidyAtTheLimits: constraints that all are the same, clauses of as many literals as may be.
func TestTidyAtTheLimits(t *testing.T) {
	alike := make([]atom.Atom, 2000)
	for i := range alike {
		alike[i] = with(atom.Le, -3-3*i, 0, 1+i)
	}
	long := make([]int, 64)
	for i := range long {
		long[i] = 1001 + 31*i
	}
	got, e := Tidy(Problem{1, 1000, alike, slices.Repeat([][]int{long}, 4000)})
	if want := (Problem{1, 1000, []atom.Atom{with(atom.Le, -3, 0, 1)}, slices.Repeat([][]int{{1001}}, 4000)}); !same(got, want) || e != api.OK {
		t.Errorf("%d constraints, %d clauses, %d", len(got.Atoms), len(got.Clauses), e)
	}
	p := Problem{1, 1000, bounds(2000), slices.Repeat([][]int{upTo(64)}, 4000)}
	if got, e := Tidy(p); !same(got, p) || e != api.OK {
		t.Errorf("%d constraints, %d clauses, %d", len(got.Atoms), len(got.Clauses), e)
	}
}

// TestExamplesOfTidy: those of the chapter.
func TestExamplesOfTidy(t *testing.T) {
	two := with(atom.Le, 0, 0, 2)
	if got, e := Tidy(Problem{Reals: 1, Atoms: []atom.Atom{two}}); !same(got, Problem{Reals: 1, Atoms: []atom.Atom{with(atom.Le, 0, 0, 1)}}) || e != api.OK {
		t.Errorf("%s, %d", showAll(got), e)
	}
	if e := Check(Problem{Reals: 1, Atoms: []atom.Atom{two}}); e != api.ErrForm {
		t.Errorf("%d", e)
	}
	if e := Check(Problem{Bools: 2, Clauses: [][]int{{2, 1}}}); e != api.ErrForm {
		t.Errorf("%d", e)
	}
	p := Problem{Reals: 1, Atoms: []atom.Atom{with(atom.Le, 0), with(atom.Lt, 0, 0, 1), with(atom.Lt, 0, 0, 2)}, Clauses: [][]int{{1, 2}, {-1, 3}, {2, -3}}}
	if got, e := Tidy(p); !same(got, Problem{Reals: 1, Atoms: []atom.Atom{with(atom.Lt, 0, 0, 1)}, Clauses: [][]int{{1}}}) || e != api.OK {
		t.Errorf("%s, %d", showAll(got), e)
	}
	if got, _ := Holds(p, []rat.Rat{rat.Int(-1)}, nil); got {
		t.Error("a problem that isn't in form holds")
	}
}
