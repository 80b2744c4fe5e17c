package clause

import (
	"encoding/binary"
	"fmt"
	"math"
	"slices"
	"testing"

	"attest/api"
)

// some: a row of numbers put together at haphazard, the same ones each time.
type some uint64

// below: the next number, from 0 to n - 1.
func (s *some) below(n int) int {
	*s = *s*6364136223846793005 + 1442695040888963407
	return int(uint64(*s)>>33) % n
}

// clause: at most so many literals of so many variables.
func (s *some) clause(most, vars int) []int {
	out := make([]int, s.below(most+1))
	for i := range out {
		out[i] = (1 + s.below(vars)) * (1 - 2*s.below(2))
	}
	return out
}

// small: every list of at most three of these literals.
func small() [][]int {
	out := [][]int{nil}
	for from, deep := 0, 0; deep < 3; deep++ {
		to := len(out)
		for _, c := range out[from:to] {
			for _, l := range []int{1, -1, 2, -2, 3, -3} {
				out = append(out, append(slices.Clone(c), l))
			}
		}
		from = to
	}
	return out
}

// edges: lists with literals at the ends of what there are, one many times, opposites in both orders, long ones.
func edges() [][]int {
	const top = math.MaxInt
	out := [][]int{
		{}, {1}, {-1}, {top}, {-top}, {top, -top}, {-top, top}, {1, -1}, {-1, 1}, {top, 1}, {1, top}, {-top, 1}, {-1, -top}, {top, -1, 5, -5, 1, -top},
		{7, 7}, {-7, -7, -7}, slices.Repeat([]int{4}, 100), slices.Repeat([]int{4, -4}, 100), slices.Repeat([]int{-4, 4, 2}, 33), {top - 1, top, 1 - top}, {1 << 32, 1, -1 << 32, 1<<32 + 1},
		{math.MinInt + 1, math.MinInt + 2}, {1, 2, 3, 4, 5, 6, 7, 8}, {-8, -7, -6, -5, -4, -3, -2, -1}, {1, 3, 5, 7, 9, 11, -2, -4, -6, -8, -10, -12},
	}
	s := some(3)
	for range 300 {
		out = append(out, s.clause(40, 1+s.below(60)))
	}
	return out
}

func clauses() [][]int {
	return append(small(), edges()...)
}

// wrong: lists with what is no literal alone, in front, in the middle and at the end.
func wrong() [][]int {
	var out [][]int
	for _, l := range []int{0, math.MinInt} {
		out = append(out, []int{l}, []int{l, 1}, []int{1, l}, []int{1, l, -1}, []int{l, 1, 2}, []int{1, 2, l}, []int{l, l}, []int{2, -2, l}, []int{l, 3, -3, 1, 1}, []int{math.MaxInt, l, -math.MaxInt},
			append(slices.Repeat([]int{9}, 50), l))
	}
	return append(out, []int{0, math.MinInt})
}

// canonical: a clause's literals by rising variables, looked for one by one.
func canonical(c []int) []int {
	var vars, out []int
	for _, l := range c {
		if l < 0 {
			l = -l
		}
		if !slices.Contains(vars, l) {
			vars = append(vars, l)
		}
	}
	slices.Sort(vars)
	for _, v := range vars {
		for _, l := range []int{v, -v} {
			if slices.Contains(c, l) {
				out = append(out, l)
			}
		}
	}
	return out
}

// truths: every list of at most so many truths.
func truths(most int) [][]bool {
	var out [][]bool
	for n := range most + 1 {
		for bits := range 1 << n {
			vals := make([]bool, n)
			for i := range vals {
				vals[i] = bits>>i&1 == 1
			}
			out = append(out, vals)
		}
	}
	return out
}

// holds: is a literal of a clause true?
func holds(c []int, vals []bool) bool {
	for _, l := range c {
		if l > 0 && l <= len(vals) && vals[l-1] || l < 0 && (-l > len(vals) || !vals[-l-1]) {
			return true
		}
	}
	return false
}

// resolved: the answers of Resolve, by looking at each literal of the one and each of the other.
func resolved(a, b []int) ([]int, int, api.Errno) {
	var at, out []int
	for _, l := range canonical(a) {
		if slices.Contains(b, -l) {
			at = append(at, l)
		}
	}
	if len(at) != 1 {
		return nil, 0, api.ErrRule
	}
	for _, l := range a {
		if l != at[0] {
			out = append(out, l)
		}
	}
	for _, l := range b {
		if l != -at[0] {
			out = append(out, l)
		}
	}
	return canonical(out), at[0], api.OK
}

// chained: the answers of Chain, step by step.
func chained(cs [][]int) ([]int, api.Errno) {
	out, e := canonical(cs[0]), api.OK
	for _, c := range cs[1:] {
		if out, _, e = resolved(out, c); e != api.OK {
			return nil, e
		}
	}
	return out, api.OK
}

func TestCanon(t *testing.T) {
	for _, c := range clauses() {
		got, e := Canon(c)
		if !slices.Equal(got, canonical(c)) || e != api.OK {
			t.Errorf("Canon(%v) = %v, %d", c, got, e)
		}
		if again, e := Canon(got); !slices.Equal(again, got) || e != api.OK {
			t.Errorf("Canon of %v = %v, %d", got, again, e)
		}
	}
}

// TestCanonOfManyOrders: each order of the same literals is answered by the same.
func TestCanonOfManyOrders(t *testing.T) {
	want := []int{1, -1, 2, -3, 4, -4}
	var turn func(done, left []int)
	turn = func(done, left []int) {
		if len(left) == 0 {
			if got, e := Canon(done); !slices.Equal(got, want) || e != api.OK {
				t.Fatalf("Canon(%v) = %v, %d", done, got, e)
			}
		}
		for i, l := range left {
			turn(append(slices.Clone(done), l), slices.Delete(slices.Clone(left), i, i+1))
		}
	}
	turn(nil, want)
	turn(nil, append(want, 1))
	turn(nil, append(want, -3))
}

func TestAlways(t *testing.T) {
	said := map[bool]int{}
	for _, c := range clauses() {
		want := slices.ContainsFunc(c, func(l int) bool { return slices.Contains(c, -l) })
		got, e := Always(c)
		if got != want || e != api.OK {
			t.Errorf("Always(%v) = %v, %d", c, got, e)
		}
		said[got]++
	}
	if said[true] < 50 || said[false] < 50 {
		t.Errorf("%v", said)
	}
}

// TestAlwaysIsAlways: of small clauses it is said just of those that hold at all truths.
func TestAlwaysIsAlways(t *testing.T) {
	for _, c := range small() {
		everywhere := true
		for _, vals := range truths(3) {
			everywhere = everywhere && holds(c, vals)
		}
		if got, _ := Always(c); got != everywhere {
			t.Errorf("Always(%v) = %v", c, got)
		}
	}
}

func TestHolds(t *testing.T) {
	for _, c := range clauses() {
		for _, vals := range truths(4) {
			if got, e := Holds(c, vals); got != holds(c, vals) || e != api.OK {
				t.Fatalf("Holds(%v, %v) = %v, %d", c, vals, got, e)
			}
		}
	}
}

// TestHoldsAtTheEnds: no literals, no truths, fewer truths than variables and just as many.
func TestHoldsAtTheEnds(t *testing.T) {
	yes, no := true, false
	for _, x := range []struct {
		c    []int
		vals []bool
		want bool
	}{
		{nil, nil, false}, {nil, []bool{yes}, false}, {[]int{}, []bool{}, false}, {[]int{1}, nil, false}, {[]int{-1}, nil, true}, {[]int{1}, []bool{yes}, true}, {[]int{-1}, []bool{yes}, false},
		{[]int{1}, []bool{no}, false}, {[]int{-1}, []bool{no}, true}, {[]int{2}, []bool{yes}, false}, {[]int{-2}, []bool{yes}, true}, {[]int{2}, []bool{no, yes}, true}, {[]int{-2}, []bool{no, yes}, false},
		{[]int{2}, []bool{yes, no}, false}, {[]int{3}, []bool{yes, yes}, false}, {[]int{-3}, []bool{yes, yes}, true}, {[]int{math.MaxInt}, []bool{yes, yes}, false}, {[]int{-math.MaxInt}, []bool{yes, yes}, true},
		{[]int{3, 1}, []bool{yes}, true}, {[]int{1, 3}, []bool{no, no, yes}, true}, {[]int{-1, -2, 3}, []bool{yes, yes, no}, false}, {[]int{1, -1}, nil, true}, {[]int{-5}, nil, true},
	} {
		if got, e := Holds(x.c, x.vals); got != x.want || e != api.OK {
			t.Errorf("Holds(%v, %v) = %v, %d", x.c, x.vals, got, e)
		}
	}
}

func TestWithin(t *testing.T) {
	said, list := map[bool]int{}, append(small(), edges()[:25]...)
	for _, a := range list {
		for _, b := range list {
			want := !slices.ContainsFunc(a, func(l int) bool { return !slices.Contains(b, l) })
			got, e := Within(a, b)
			if got != want || e != api.OK {
				t.Fatalf("Within(%v, %v) = %v, %d", a, b, got, e)
			}
			said[got]++
		}
	}
	if said[true] < 1000 || said[false] < 1000 {
		t.Errorf("%v", said)
	}
}

func TestResolve(t *testing.T) {
	said, list := map[api.Errno]int{}, append(small(), edges()...)
	for _, a := range list {
		for _, b := range list {
			want, at, e := resolved(a, b)
			got, l, f := Resolve(a, b)
			if !slices.Equal(got, want) || l != at || f != e {
				t.Fatalf("Resolve(%v, %v) = %v, %d, %d; not %v, %d, %d", a, b, got, l, f, want, at, e)
			}
			said[f]++
		}
	}
	if said[api.OK] < 1000 || said[api.ErrRule] < 1000 {
		t.Errorf("%v", said)
	}
}

// TestResolveByOpposites: with none, one, two and three between the clauses, and with a clause that has opposites itself.
func TestResolveByOpposites(t *testing.T) {
	const top = math.MaxInt
	for _, x := range []struct {
		a, b, want []int
		l          int
		e          api.Errno
	}{
		{nil, nil, nil, 0, api.ErrRule}, {[]int{1}, nil, nil, 0, api.ErrRule}, {nil, []int{1}, nil, 0, api.ErrRule}, {[]int{1}, []int{1}, nil, 0, api.ErrRule}, {[]int{1, 2, 3}, []int{1, 4, 5}, nil, 0, api.ErrRule},
		{[]int{1}, []int{-1}, nil, 1, api.OK}, {[]int{-1}, []int{1}, nil, -1, api.OK}, {[]int{top}, []int{-top}, nil, top, api.OK}, {[]int{-top, 3}, []int{top, 3}, []int{3}, -top, api.OK},
		{[]int{1, 2}, []int{-2, 3}, []int{1, 3}, 2, api.OK}, {[]int{3, 2, 1}, []int{9, -2, 8}, []int{1, 3, 8, 9}, 2, api.OK}, {[]int{2, 2, 2}, []int{-2, 5, -2}, []int{5}, 2, api.OK},
		{[]int{1, 2}, []int{-1, -2}, nil, 0, api.ErrRule}, {[]int{1, -2, 7}, []int{8, 2, -1}, nil, 0, api.ErrRule}, {[]int{1, 2, 3}, []int{-1, -2, -3}, nil, 0, api.ErrRule}, {[]int{-1, 2, -3}, []int{3, -2, 1, 4}, nil, 0, api.ErrRule},
		{[]int{1, -1}, []int{1}, []int{1}, -1, api.OK}, {[]int{1, -1}, []int{-1}, []int{-1}, 1, api.OK}, {[]int{1}, []int{1, -1}, []int{1}, 1, api.OK}, {[]int{-1}, []int{1, -1}, []int{-1}, -1, api.OK},
		{[]int{1, -1}, []int{-1, 1}, nil, 0, api.ErrRule}, {[]int{1, -1, 2}, []int{3, 1}, []int{1, 2, 3}, -1, api.OK}, {[]int{1, 2, -2}, []int{-1}, []int{2, -2}, 1, api.OK}, {[]int{1}, []int{-1, 2, -2}, []int{2, -2}, 1, api.OK},
		{[]int{1, -1}, []int{1, 2}, []int{1, 2}, -1, api.OK}, {[]int{1, -1, 2}, []int{1, -2}, nil, 0, api.ErrRule}, {[]int{5, 6}, []int{5, -6}, []int{5}, 6, api.OK},
	} {
		if got, l, e := Resolve(x.a, x.b); !slices.Equal(got, x.want) || l != x.l || e != x.e {
			t.Errorf("Resolve(%v, %v) = %v, %d, %d", x.a, x.b, got, l, e)
		}
	}
}

// TestResolveHolds: wherever both clauses hold.
func TestResolveHolds(t *testing.T) {
	list, all := small(), truths(3)
	for _, a := range list {
		for _, b := range list {
			got, _, e := Resolve(a, b)
			if e != api.OK {
				continue
			}
			for _, vals := range all {
				if holds(a, vals) && holds(b, vals) && !holds(got, vals) {
					t.Fatalf("Resolve(%v, %v) = %v doesn't hold at %v", a, b, got, vals)
				}
			}
		}
	}
}

// links: is a list of clauses chained as it should be? And how.
func links(t *testing.T, cs [][]int) ([]int, api.Errno) {
	t.Helper()
	want, e := chained(cs)
	got, f := Chain(cs)
	if !slices.Equal(got, want) || f != e {
		t.Fatalf("Chain(%v) = %v, %d; not %v, %d", cs, got, f, want, e)
	}
	return got, f
}

// TestChain: every list of at most three clauses of at most two literals; what comes out holds wherever all of them do.
func TestChain(t *testing.T) {
	said, list, all := map[api.Errno]int{}, small()[:43], truths(3)
	for _, a := range list {
		links(t, [][]int{a})
		for _, b := range list {
			links(t, [][]int{a, b})
			for _, c := range list {
				got, e := links(t, [][]int{a, b, c})
				said[e]++
				for _, vals := range all {
					if e == api.OK && holds(a, vals) && holds(b, vals) && holds(c, vals) && !holds(got, vals) {
						t.Fatalf("Chain(%v, %v, %v) = %v doesn't hold at %v", a, b, c, got, vals)
					}
				}
			}
		}
	}
	if said[api.OK] < 1000 || said[api.ErrRule] < 1000 {
		t.Errorf("%v", said)
	}
}

// TestLongerChains: such as can be resolved for a while, each clause with the opposite of a literal that is there.
func TestLongerChains(t *testing.T) {
	s, ended := some(7), map[api.Errno]int{}
	for range 3000 {
		cs := [][]int{append(s.clause(12, 30), 1)}
		for range s.below(12) {
			so, e := chained(cs)
			if e != api.OK || len(so) == 0 {
				break
			}
			cs = append(cs, append(s.clause(2, 200), -so[s.below(len(so))]))
		}
		_, e := links(t, cs)
		ended[e]++
	}
	if ended[api.OK] < 500 || ended[api.ErrRule] < 100 {
		t.Errorf("%v", ended)
	}
}

// TestChainsOfMany: a long clause whose literals are taken away one by one, and one that grows ever longer.
func TestChainsOfMany(t *testing.T) {
	const n = 50000
	all, steps := make([]int, n), [][]int{nil}
	for i := range all {
		all[i] = n - i
		steps = append(steps, []int{-1 - i})
	}
	steps[0] = all
	if got, e := Chain(steps); len(got) != 0 || e != api.OK {
		t.Errorf("%d literals are left, %d", len(got), e)
	}
	if got, e := Chain(steps[:n]); !slices.Equal(got, []int{n}) || e != api.OK {
		t.Errorf("%v are left, %d", len(got), e)
	}
	grow := [][]int{{1}}
	for i := range n {
		grow = append(grow, []int{-1, 1, i + 2})
	}
	slices.Sort(all)
	if got, e := Chain(grow[:n]); !slices.Equal(got, all) || e != api.OK {
		t.Errorf("%d literals, %d", len(got), e)
	}
}

func TestChainOfWrongOnes(t *testing.T) {
	for _, cs := range [][][]int{nil, {}, make([][]int, 0, 4)} {
		if got, e := Chain(cs); len(got) != 0 || e != api.ErrArg {
			t.Errorf("Chain of no clause: %v, %d", got, e)
		}
	}
	for _, c := range wrong() {
		for _, cs := range [][][]int{
			{c}, {c, {1}}, {{1}, c}, {{1, 2}, c, {-2}}, {{1}, {-1}, c}, {{1}, {2}, c}, {{1}, {1}, {1}, c}, {nil, nil, c}, {c, nil}, {c, c}, {{1, 2}, {-1, -2}, {5}, c},
		} {
			if got, e := Chain(cs); len(got) != 0 || e != api.ErrForm {
				t.Errorf("Chain(%v) = %v, %d", cs, got, e)
			}
		}
	}
}

// TestChainOfOne: it is made canonical, and so is what comes of clauses that aren't.
func TestChainOfOne(t *testing.T) {
	for _, c := range clauses() {
		links(t, [][]int{c})
	}
	for _, x := range []struct {
		cs   [][]int
		want []int
		e    api.Errno
	}{
		{[][]int{nil}, nil, api.OK}, {[][]int{{3, -1, 3, 1}}, []int{1, -1, 3}, api.OK}, {[][]int{{2, 1, 2}, {3, -2, 3, -2}}, []int{1, 3}, api.OK}, {[][]int{{1, -1}, {1}, {-1}}, nil, api.OK},
		{[][]int{{1}, {-1}, {1}}, nil, api.ErrRule}, {[][]int{{1}, {2}, {-1}}, nil, api.ErrRule}, {[][]int{{1, 2}, {-1, -2}}, nil, api.ErrRule}, {[][]int{nil, nil}, nil, api.ErrRule}, {[][]int{{1}, {1}}, nil, api.ErrRule},
		{[][]int{{-1, -2}, {1, 3}, {2, 3}, {-3}}, nil, api.OK}, {[][]int{{-1, -2}, {2}, {1}}, nil, api.OK},
	} {
		if got, e := Chain(x.cs); !slices.Equal(got, x.want) || e != x.e {
			t.Errorf("Chain(%v) = %v, %d", x.cs, got, e)
		}
	}
}

// keyed: the key of a clause, its numbers packed by another hand.
func keyed(c []int) Key {
	canon := canonical(c)
	key := Key{Len: len(canon)}
	var rest []byte
	for i, l := range canon {
		if i < 6 {
			key.Head[i] = l
		} else {
			rest = binary.AppendVarint(rest, int64(l))
		}
	}
	key.Rest = string(rest)
	return key
}

func TestKeyOf(t *testing.T) {
	for _, c := range clauses() {
		if got, e := KeyOf(c); got != keyed(c) || e != api.OK {
			t.Errorf("KeyOf(%v) = %v, %d", c, got, e)
		}
	}
}

// TestKeyOfLengths: of 0, 5, 6, 7 and many literals, with numbers of one byte and of several behind the sixth.
func TestKeyOfLengths(t *testing.T) {
	count := func(n int) []int {
		out := make([]int, n)
		for i := range out {
			out[i] = i + 1
		}
		return out
	}
	const top = math.MaxInt
	for _, x := range []struct {
		c    []int
		want Key
	}{
		{nil, Key{}}, {[]int{1}, Key{Len: 1, Head: [6]int{1}}}, {[]int{-1}, Key{Len: 1, Head: [6]int{-1}}}, {[]int{top}, Key{Len: 1, Head: [6]int{top}}}, {count(5), Key{5, [6]int{1, 2, 3, 4, 5}, ""}},
		{count(6), Key{6, [6]int{1, 2, 3, 4, 5, 6}, ""}}, {count(7), Key{7, [6]int{1, 2, 3, 4, 5, 6}, "\x0e"}}, {append(count(6), -7), Key{7, [6]int{1, 2, 3, 4, 5, 6}, "\x0d"}},
		{count(9), Key{9, [6]int{1, 2, 3, 4, 5, 6}, "\x0e\x10\x12"}}, {append(count(6), 63, -64, 64, -65), Key{10, [6]int{1, 2, 3, 4, 5, 6}, "\x7e\x80\x01\x7f\x81\x01"}},
		{append(count(6), top, -top), Key{8, [6]int{1, 2, 3, 4, 5, 6}, "\xfe\xff\xff\xff\xff\xff\xff\xff\xff\x01\xfd\xff\xff\xff\xff\xff\xff\xff\xff\x01"}},
		{[]int{6, 5, 4, 3, 2, 1, 1, 6}, Key{6, [6]int{1, 2, 3, 4, 5, 6}, ""}}, {[]int{1, -1, 2, -2, 3, -3, 4}, Key{7, [6]int{1, -1, 2, -2, 3, -3}, "\x08"}},
	} {
		if got, e := KeyOf(x.c); got != x.want || e != api.OK {
			t.Errorf("KeyOf(%v) = %v, %d", x.c, got, e)
		}
	}
	for _, n := range []int{64, 1000, 5000} {
		if got, e := KeyOf(count(n)); got != keyed(count(n)) || got.Len != n || e != api.OK {
			t.Errorf("KeyOf of %d literals: %d, %d", n, got.Len, e)
		}
	}
}

// near: clauses that are much alike, and each again in another order.
func near() [][]int {
	var out [][]int
	base := []int{1, 2, 3, 4, 5, 6, 7, 200, 30000}
	for n := range base {
		for i := range n + 1 {
			for _, l := range []int{-base[i], base[i] + 1, base[i] + 128, 1} {
				c := slices.Clone(base[:n+1])
				c[i] = l
				back := slices.Clone(c)
				slices.Reverse(back)
				out = append(out, c, append(back, l))
			}
		}
	}
	return out
}

// TestKeysTellApart: two keys are equal just if the canonical clauses are.
func TestKeysTellApart(t *testing.T) {
	list := slices.Concat(small(), edges()[:100], near())
	equal := 0
	for i, a := range list {
		key, _ := KeyOf(a)
		for _, b := range list[:i] {
			other, _ := KeyOf(b)
			same := slices.Equal(canonical(a), canonical(b))
			if (key == other) != same {
				t.Fatalf("%v and %v have the keys %v and %v", a, b, key, other)
			}
			if same {
				equal++
			}
		}
	}
	if equal < 300 {
		t.Errorf("%d equal ones", equal)
	}
}

func TestPlaces(t *testing.T) {
	for _, cs := range [][][]int{nil, {nil}, {nil, {}, {1}}, clauses(), wrong(), near(), slices.Concat(wrong(), clauses(), near(), wrong(), clauses())} {
		got := Places(cs)
		if len(got) != len(cs) {
			t.Fatalf("%d places of %d", len(got), len(cs))
		}
		first := map[string]int{}
		for i, c := range cs {
			if slices.Contains(c, 0) || slices.Contains(c, math.MinInt) {
				if got[i] != -1 {
					t.Errorf("place %d of %v", got[i], c)
				}
				continue
			}
			text := fmt.Sprint(canonical(c))
			if _, seen := first[text]; !seen {
				first[text] = i
			}
			if got[i] != first[text] {
				t.Fatalf("clause %d, %v: place %d, not %d", i, c, got[i], first[text])
			}
		}
	}
}

// TestWrongLiterals: ErrForm of each call, whichever clause has one, and zero values beside it.
func TestWrongLiterals(t *testing.T) {
	for _, c := range wrong() {
		if got, e := Canon(c); len(got) != 0 || e != api.ErrForm {
			t.Errorf("Canon(%v) = %v, %d", c, got, e)
		}
		if got, e := Always(c); got || e != api.ErrForm {
			t.Errorf("Always(%v) = %v, %d", c, got, e)
		}
		for _, vals := range truths(3) {
			if got, e := Holds(c, vals); got || e != api.ErrForm {
				t.Errorf("Holds(%v, %v) = %v, %d", c, vals, got, e)
			}
		}
		if got, e := KeyOf(c); got != (Key{}) || e != api.ErrForm {
			t.Errorf("KeyOf(%v) = %v, %d", c, got, e)
		}
		for _, d := range append(wrong(), nil, []int{1}, []int{-1}, []int{1, -1}, []int{-9}, c) {
			for _, pair := range [][2][]int{{c, d}, {d, c}} {
				if got, e := Within(pair[0], pair[1]); got || e != api.ErrForm {
					t.Errorf("Within(%v) = %v, %d", pair, got, e)
				}
				if got, l, e := Resolve(pair[0], pair[1]); len(got) != 0 || l != 0 || e != api.ErrForm {
					t.Errorf("Resolve(%v) = %v, %d, %d", pair, got, l, e)
				}
			}
		}
	}
}

// roomy: a list with room behind it, filled with what isn't of the list.
func roomy(c []int) []int {
	out := append(make([]int, 0, len(c)+3), c...)
	copy(out[len(c):len(c)+3], []int{77, 0, -77})
	return out
}

// untouched: are a list and the room behind it as roomy made them?
func untouched(got, c []int) bool {
	return slices.Equal(got, c) && slices.Equal(got[len(c):len(c)+3], []int{77, 0, -77})
}

func TestNothingIsChanged(t *testing.T) {
	list := slices.Concat(edges(), small()[:100], wrong())
	for i, c := range list {
		d := list[(i*7+3)%len(list)]
		a, b, vals := roomy(c), roomy(d), make([]bool, 3, 6)
		cs := append(make([][]int, 0, 4), a, b)
		copy(cs[2:4], [][]int{a, b})
		Canon(a)
		Always(a)
		Holds(a, vals)
		KeyOf(a)
		Within(a, b)
		Resolve(a, b)
		Chain(cs)
		Chain(cs[:1])
		Places(cs)
		if !untouched(a, c) || !untouched(b, d) || slices.Contains(vals[:6], true) {
			t.Fatalf("%v or %v is changed: %v, %v", c, d, a, b)
		}
		for k, kept := range [][]int{a, b, a, b} {
			if now := cs[:4][k]; len(now) != len(kept) || len(kept) > 0 && &now[0] != &kept[0] {
				t.Fatalf("place %d of the list is changed", k)
			}
		}
	}
}

// spoil writes into all memory of a list.
func spoil(c []int) {
	c = c[:cap(c)]
	for i := range c {
		c[i] = 99
	}
}

// TestAnswersAreNew: what is done to an answer is nothing to what was handed in, nor to another answer.
func TestAnswersAreNew(t *testing.T) {
	for _, c := range edges() {
		a, b := roomy(c), roomy([]int{-1000, 2000})
		first, _ := Canon(a)
		second, _ := Canon(a)
		alone, _ := Chain([][]int{a})
		withOne := append(roomy(c), 1000)
		made, _, _ := Resolve(withOne, b)
		again, _, _ := Resolve(withOne, b)
		chain, _ := Chain([][]int{withOne, b})
		spoil(first)
		spoil(alone)
		spoil(made)
		spoil(chain)
		if !untouched(a, c) || !untouched(b, []int{-1000, 2000}) || !slices.Equal(second, canonical(c)) || !slices.Equal(again, canonical(append([]int{2000}, c...))) {
			t.Fatalf("an answer to %v shares memory", c)
		}
	}
	cs := [][]int{{1}, {1}, {0}}
	places, other := Places(cs), Places(cs)
	spoil(places)
	if !slices.Equal(other, []int{0, 0, -1}) || !slices.Equal(cs[0], []int{1}) {
		t.Errorf("Places share memory: %v", other)
	}
}

// TestTheSameIsAnswered: again and again, whatever was called between.
func TestTheSameIsAnswered(t *testing.T) {
	s := some(23)
	a, b := append(s.clause(60, 100), 500), append(s.clause(60, 100), -500)
	first, l, e := Resolve(a, b)
	for range 50 {
		Resolve(s.clause(9, 9), s.clause(9, 9))
		if got, m, f := Resolve(a, b); !slices.Equal(got, first) || m != l || f != e {
			t.Fatalf("Resolve(%v, %v) = %v, %v", a, b, first, got)
		}
	}
}

// TestExamples: those of the chapter.
func TestExamples(t *testing.T) {
	if got, e := Canon([]int{3, -1, 3, 1}); !slices.Equal(got, []int{1, -1, 3}) || e != api.OK {
		t.Errorf("%v, %d", got, e)
	}
	if got, e := Always([]int{3, -1, 3, 1}); !got || e != api.OK {
		t.Errorf("%v, %d", got, e)
	}
	if got, l, e := Resolve([]int{1, 2}, []int{-2, 3}); !slices.Equal(got, []int{1, 3}) || l != 2 || e != api.OK {
		t.Errorf("%v, %d, %d", got, l, e)
	}
	if got, e := Chain([][]int{{1, 2}, {-1}, {-2}}); len(got) != 0 || e != api.OK {
		t.Errorf("%v, %d", got, e)
	}
	if got, e := KeyOf([]int{2, -1}); got != (Key{2, [6]int{-1, 2, 0, 0, 0, 0}, ""}) || e != api.OK {
		t.Errorf("%v, %d", got, e)
	}
	if got := Places([][]int{{1, 2}, {2, 1, 1}, {0}}); !slices.Equal(got, []int{0, 0, -1}) {
		t.Errorf("%v", got)
	}
}
