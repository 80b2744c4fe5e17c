package net

import (
	"fmt"
	"math"
	"math/big"
	"slices"
	"strings"
	"testing"

	"attest/api"
	"attest/rat"
	"attest/rtext"
)

// some: a row of numbers put together at haphazard, the same ones each time.
type some uint64

// below: the next number, from 0 to n - 1.
func (s *some) below(n int) int {
	*s = *s*6364136223846793005 + 1442695040888963407
	return int(uint64(*s)>>33) % n
}

// number: a small rational number.
func (s *some) number() rat.Rat {
	return frac(s.below(13)-6, 1+s.below(4))
}

func frac(n, d int) rat.Rat {
	r, _ := rat.Frac(n, d)
	return r
}

// ints: whole numbers.
func ints(l ...int) []rat.Rat {
	out := make([]rat.Rat, len(l))
	for i, n := range l {
		out[i] = rat.Int(n)
	}
	return out
}

// value: the number of a Rat, for big to work with.
func value(r rat.Rat) *big.Rat {
	out, _ := new(big.Rat).SetString(rtext.Print(r))
	return out
}

// show: numbers as a test tells them; two lists are told alike just if they are the same, number by number.
func show(l []rat.Rat) string {
	texts := make([]string, len(l))
	for i, r := range l {
		texts[i] = rtext.Print(r)
	}
	return "[" + strings.Join(texts, " ") + "]"
}

// showAll: everything that a network has, what has no meaning too; a list that is nil is told like an empty one.
func showAll(n Net) string {
	out := fmt.Sprint("in ", n.In)
	for _, l := range n.Layers {
		out += fmt.Sprint("; kind ", l.Kind, " W")
		for _, row := range l.W {
			out += show(row)
		}
		out += " B" + show(l.B) + " groups"
		for _, group := range l.Groups {
			out += fmt.Sprint(group)
		}
	}
	return out
}

func same(n, m Net) bool {
	return showAll(n) == showAll(m)
}

func isZero(n Net) bool {
	return n.In == 0 && len(n.Layers) == 0
}

// plain: the same network in new memory, what has no meaning left out.
func plain(n Net) Net {
	out := Net{In: n.In}
	for _, l := range n.Layers {
		p := Layer{Kind: l.Kind}
		if l.Kind == 1 {
			for _, row := range l.W {
				p.W = append(p.W, slices.Clone(row))
			}
			p.B = slices.Clone(l.B)
		}
		if l.Kind == 3 {
			for _, group := range l.Groups {
				p.Groups = append(p.Groups, slices.Clone(group))
			}
		}
		out.Layers = append(out.Layers, p)
	}
	return out
}

// widthsOf: what Widths should say, each limit looked at apart.
func widthsOf(n Net) ([]int, api.Errno) {
	big := n.In > 32 || len(n.Layers) > 16
	for _, l := range n.Layers {
		big = big || l.Kind == 1 && len(l.W) > 32 || l.Kind == 3 && len(l.Groups) > 32
		for _, row := range l.W {
			big = big || l.Kind == 1 && len(row) > 32
		}
		for _, group := range l.Groups {
			big = big || l.Kind == 3 && len(group) > 32
		}
	}
	if big {
		return nil, api.ErrBig
	}
	widths, ok := []int{n.In}, n.In > 0
	for _, l := range n.Layers {
		ahead := widths[len(widths)-1]
		switch l.Kind {
		case 1:
			ok = ok && len(l.W) > 0 && len(l.B) == len(l.W)
			for _, row := range l.W {
				ok = ok && len(row) == ahead
			}
			widths = append(widths, len(l.W))
		case 2:
			widths = append(widths, ahead)
		case 3:
			ok = ok && len(l.Groups) > 0
			for _, group := range l.Groups {
				ok = ok && len(group) > 0
				for _, place := range group {
					ok = ok && place > -1 && place < ahead
				}
			}
			widths = append(widths, len(l.Groups))
		default:
			ok = false
		}
	}
	if !ok {
		return nil, api.ErrForm
	}
	return widths, api.OK
}

// traceOf: what stands behind each layer of a network in form, by big's numbers.
func traceOf(n Net, x []rat.Rat) string {
	var now []*big.Rat
	for _, r := range x {
		now = append(now, value(r))
	}
	tell := func() string {
		texts := make([]string, len(now))
		for i, r := range now {
			texts[i] = r.RatString()
		}
		return "[" + strings.Join(texts, " ") + "]"
	}
	out := tell()
	for _, l := range n.Layers {
		var next []*big.Rat
		switch l.Kind {
		case 1:
			for i, row := range l.W {
				sum := value(l.B[i])
				for j, r := range row {
					sum.Add(sum, new(big.Rat).Mul(value(r), now[j]))
				}
				next = append(next, sum)
			}
		case 2:
			for _, r := range now {
				if r.Sign() < 0 {
					r = new(big.Rat)
				}
				next = append(next, r)
			}
		case 3:
			for _, group := range l.Groups {
				best := now[group[0]]
				for _, place := range group {
					if now[place].Cmp(best) > 0 {
						best = now[place]
					}
				}
				next = append(next, best)
			}
		}
		now = next
		out += tell()
	}
	return out
}

// net: a network in form; now and then with things in it that have no meaning.
func (s *some) net() Net {
	n := Net{In: 1 + s.below(4)}
	ahead := n.In
	for range s.below(5) {
		l := Layer{Kind: 1 + s.below(3)}
		behind := 1 + s.below(4)
		if l.Kind == 1 || s.below(4) == 0 {
			l.W, l.B = make([][]rat.Rat, behind), make([]rat.Rat, behind)
			for i := range l.W {
				l.B[i] = s.number()
				for range ahead {
					l.W[i] = append(l.W[i], s.number())
				}
			}
		}
		if l.Kind == 3 || s.below(4) == 0 {
			l.Groups = make([][]int, behind)
			for i := range l.Groups {
				for range 1 + s.below(4) {
					l.Groups[i] = append(l.Groups[i], s.below(ahead))
				}
			}
		}
		if l.Kind != 2 {
			ahead = behind
		}
		n.Layers = append(n.Layers, l)
	}
	return n
}

// change does one small thing to a network, or nothing.
func (s *some) change(n *Net) {
	if s.below(8) == 0 {
		n.In += s.below(3) - 1
	}
	if len(n.Layers) == 0 {
		return
	}
	l := &n.Layers[s.below(len(n.Layers))]
	switch s.below(10) {
	case 0:
		l.Kind = s.below(6) - 1
	case 1:
		l.B = append(l.B, s.number())
	case 2:
		l.B = l.B[:len(l.B)/2]
	case 3:
		l.W = append(l.W, s.list())
	case 4:
		if len(l.W) > 0 {
			l.W[s.below(len(l.W))] = s.list()
		}
	case 5:
		l.Groups = append(l.Groups, []int{s.below(7) - 2})
	case 6:
		if len(l.Groups) > 0 {
			l.Groups[s.below(len(l.Groups))] = nil
		}
	case 7:
		*l = Layer{Kind: l.Kind}
	}
}

func (s *some) list() []rat.Rat {
	out := make([]rat.Rat, s.below(5))
	for i := range out {
		out[i] = s.number()
	}
	return out
}

// judged is a network, and what Widths says of it.
type judged struct {
	name string
	n    Net
	want []int
	e    api.Errno
}

func right(name string, n Net, want ...int) judged {
	return judged{name, n, want, api.OK}
}

func wrong(name string, e api.Errno, n Net) judged {
	return judged{name, n, nil, e}
}

// of: a network of these layers.
func of(in int, layers ...Layer) Net {
	return Net{In: in, Layers: layers}
}

// affine: a layer of so many rows of so many numbers.
func affine(rows, width int) Layer {
	l := Layer{Kind: 1, B: make([]rat.Rat, rows)}
	for i := range rows {
		row := make([]rat.Rat, width)
		for j := range row {
			row[j] = frac(i-j, 1+i)
		}
		l.W, l.B[i] = append(l.W, row), rat.Int(i)
	}
	return l
}

func groups(l ...[]int) Layer {
	return Layer{Kind: 3, Groups: l}
}

// upTo: the places 0 to n - 1.
func upTo(n int) []int {
	out := make([]int, n)
	for i := range out {
		out[i] = i
	}
	return out
}

// many: the same list so many times.
func many(n int, l ...int) [][]int {
	return slices.Repeat([][]int{l}, n)
}

var relu = Layer{Kind: 2}

// ends: networks without layers, and with as many as may be.
func ends() []judged {
	long := slices.Repeat([]int{3}, 17)
	return []judged{
		right("no layers, 1", of(1), 1), right("no layers, 5", of(5), 5), right("no layers, 32", of(32), 32), right("an empty list of layers", Net{3, []Layer{}}, 3),
		wrong("none", api.ErrForm, Net{}), wrong("0", api.ErrForm, of(0)), wrong("-1", api.ErrForm, of(-1)), wrong("the least", api.ErrForm, of(math.MinInt)),
		wrong("33", api.ErrBig, of(33)), wrong("34", api.ErrBig, of(34)), wrong("the most", api.ErrBig, of(math.MaxInt)), wrong("0 and relu", api.ErrForm, of(0, relu)),
		wrong("-1 and relu", api.ErrForm, of(-1, relu)), wrong("0 and rows of none", api.ErrForm, of(0, affine(2, 0))), wrong("-3 and rows of none", api.ErrForm, of(-3, affine(2, 0))),
		wrong("0 and a group", api.ErrForm, of(0, groups([]int{0}))), wrong("0 and an empty group", api.ErrForm, of(0, groups(nil))),
		right("16 layers", Net{3, slices.Repeat([]Layer{relu}, 16)}, long...), wrong("17 layers", api.ErrBig, Net{3, slices.Repeat([]Layer{relu}, 17)}),
		wrong("17 layers of no kind", api.ErrBig, Net{3, make([]Layer, 17)}), wrong("16 layers of no kind", api.ErrForm, Net{3, make([]Layer, 16)}),
		right("16 great ones", Net{32, slices.Repeat([]Layer{affine(32, 32)}, 16)}, slices.Repeat([]int{32}, 17)...),
	}
}

// rows: networks with Affine layers.
func rows() []judged {
	less, more, gone := affine(3, 2), affine(3, 2), affine(3, 2)
	less.W[1], more.W[2], gone.W[0] = less.W[1][:1], append(more.W[2], rat.Int(1)), nil
	wide, wider := affine(3, 2), affine(3, 2)
	wide.W[1], wider.W[2] = make([]rat.Rat, 32), make([]rat.Rat, 33)
	fewer, further, none := affine(3, 2), affine(3, 2), affine(3, 2)
	fewer.B, further.B, none.B = fewer.B[:2], append(further.B, rat.Int(7)), nil
	long := affine(3, 2)
	long.B = make([]rat.Rat, 33)
	return []judged{
		right("a row", of(2, affine(1, 2)), 2, 1), right("three rows", of(2, affine(3, 2)), 2, 3), right("32 rows of 32", of(32, affine(32, 32)), 32, 32), right("32 rows of 1", of(1, affine(32, 1)), 1, 32),
		wrong("no row", api.ErrForm, of(2, affine(0, 2))), wrong("no row but B", api.ErrForm, of(2, Layer{Kind: 1, B: ints(1)})), wrong("no row, empty lists", api.ErrForm, of(2, Layer{Kind: 1, W: [][]rat.Rat{}, B: ints()})),
		wrong("33 rows", api.ErrBig, of(2, affine(33, 2))), wrong("33 rows of none", api.ErrBig, of(2, affine(33, 0))), wrong("a row of 33", api.ErrBig, of(32, affine(1, 33))), wrong("a row of 32 for 31", api.ErrForm, of(31, affine(1, 32))),
		wrong("a row of 1 for 2", api.ErrForm, of(2, affine(1, 1))), wrong("a row of 3 for 2", api.ErrForm, of(2, affine(1, 3))), wrong("a row of none", api.ErrForm, of(2, affine(1, 0))),
		wrong("one row too short", api.ErrForm, of(2, less)), wrong("one row too long", api.ErrForm, of(2, more)), wrong("one row empty", api.ErrForm, of(2, gone)), wrong("one row of 32", api.ErrForm, of(2, wide)), wrong("one row of 33", api.ErrBig, of(2, wider)),
		wrong("a number of B too few", api.ErrForm, of(2, fewer)), wrong("a number of B too many", api.ErrForm, of(2, further)), wrong("no B", api.ErrForm, of(2, none)), wrong("33 numbers of B", api.ErrForm, of(2, long)),
		right("two, one behind the other", of(2, affine(3, 2), affine(1, 3)), 2, 3, 1), wrong("the second for the first one's", api.ErrForm, of(2, affine(3, 2), affine(1, 2))),
		right("behind Relu", of(2, relu, affine(3, 2), relu, relu), 2, 2, 3, 3, 3), right("behind Max", of(3, groups([]int{0, 1}, []int{2}), affine(1, 2)), 3, 2, 1), wrong("behind Max for what came in", api.ErrForm, of(3, groups([]int{0, 1}, []int{2}), affine(1, 3))),
	}
}

// places: networks with Max layers.
func places() []judged {
	out := []judged{
		right("a group", of(3, groups([]int{0, 2})), 3, 1), right("groups that share places", of(3, groups([]int{0, 2}, []int{2, 0}, []int{2}, []int{1})), 3, 4), right("a place twice", of(3, groups([]int{1, 1}, []int{2, 0, 2})), 3, 2),
		wrong("no group", api.ErrForm, of(3, groups())), wrong("no group, an empty list", api.ErrForm, of(3, Layer{Kind: 3, Groups: [][]int{}})), wrong("an empty group", api.ErrForm, of(3, groups(nil))), wrong("an empty group behind another", api.ErrForm, of(3, groups([]int{0}, []int{}))),
		right("32 groups", of(1, groups(many(32, 0)...)), 1, 32), wrong("33 groups", api.ErrBig, of(1, groups(many(33, 0)...))), wrong("33 empty groups", api.ErrBig, of(1, groups(many(33)...))),
		right("a group of 32", of(32, groups(upTo(32))), 32, 1), wrong("a group of 33", api.ErrBig, of(32, groups(upTo(33)))), right("a group of 32 alike", of(1, groups(make([]int, 32))), 1, 1), wrong("a group of 33 alike", api.ErrBig, of(1, groups(make([]int, 33)))),
		wrong("a group of 33 behind others", api.ErrBig, of(3, groups([]int{0}, []int{9}, make([]int, 33)))), right("32 groups of 32", of(32, groups(many(32, upTo(32)...)...)), 32, 32),
		right("of a group's numbers", of(4, groups([]int{0}, []int{3}), groups([]int{1})), 4, 2, 1), wrong("beyond a group's numbers", api.ErrForm, of(4, groups([]int{0}, []int{3}), groups([]int{2}))),
		right("of rows' numbers", of(1, affine(5, 1), groups([]int{4})), 1, 5, 1), wrong("beyond rows' numbers", api.ErrForm, of(1, affine(5, 1), groups([]int{5}))),
	}
	for _, place := range []int{-1, 3, 4, 32, -3, math.MinInt, math.MaxInt, math.MinInt + 1, 1 << 32, -1 << 32} {
		for _, l := range []Layer{groups([]int{place}), groups([]int{0, place}), groups([]int{place, 0}), groups([]int{0}, []int{1, place, 2}), groups([]int{place}, []int{0})} {
			out = append(out, wrong(fmt.Sprint("place ", place), api.ErrForm, of(3, l)))
		}
	}
	for place := range 3 {
		out = append(out, right(fmt.Sprint("place ", place), of(3, groups([]int{place})), 3, 1), right(fmt.Sprint("place ", place), of(3, groups([]int{0, place, 0})), 3, 1))
	}
	return out
}

// kinds: Kinds that there aren't, and what a kind doesn't use filled in wrongly.
func kinds() []judged {
	var out []judged
	for _, kind := range []int{0, 4, -1, -2, 5, math.MinInt, math.MaxInt} {
		whole := affine(2, 2)
		whole.Kind, whole.Groups = kind, [][]int{{0}, {1}}
		great := affine(33, 33)
		great.Kind, great.Groups = kind, many(33, make([]int, 33)...)
		for _, l := range []Layer{{Kind: kind}, whole, great} {
			out = append(out, wrong(fmt.Sprint("kind ", kind), api.ErrForm, of(2, l)), wrong(fmt.Sprint("kind ", kind, " behind another"), api.ErrForm, of(2, relu, l)))
		}
	}
	bad := [][]rat.Rat{nil, ints(1), make([]rat.Rat, 40)}
	places := [][]int{nil, {-1}, {99}, make([]int, 40)}
	rows := affine(2, 2)
	for _, l := range [][][]int{places, many(40, 7), {}} {
		rows.Groups = l
		out = append(out, right("Affine with Groups", of(2, rows), 2, 2))
	}
	for _, w := range [][][]rat.Rat{bad, make([][]rat.Rat, 40), {}} {
		out = append(out, right("Max with W", of(2, Layer{Kind: 3, W: w, B: ints(1), Groups: [][]int{{1}}}), 2, 1), right("Relu with all", of(2, Layer{Kind: 2, W: w, B: make([]rat.Rat, 50), Groups: places}), 2, 2))
	}
	return append(out, right("Relu with Groups", of(2, Layer{Kind: 2, Groups: many(40, -7)}), 2, 2), right("Max with B", of(2, Layer{Kind: 3, B: make([]rat.Rat, 40), Groups: [][]int{{1}}}), 2, 1))
}

// both: networks that are too great and not in form.
func both() []judged {
	var out []judged
	wrongs := []Layer{{}, {Kind: 4}, {Kind: -1}, affine(0, 0), affine(2, 7), groups(), groups([]int{-1}), groups(nil), {Kind: 1, W: [][]rat.Rat{ints(1, 2)}}}
	for _, great := range []Layer{affine(33, 2), affine(2, 33), groups(many(33, 0)...), groups(make([]int, 33)), groups(slices.Repeat([]int{-5}, 33))} {
		for _, l := range wrongs {
			out = append(out, wrong("one wrong, one great", api.ErrBig, of(2, l, great)), wrong("one great, one wrong", api.ErrBig, of(2, great, l)), wrong("relu between", api.ErrBig, of(2, l, relu, great)))
		}
		out = append(out, wrong("0 and a great one", api.ErrBig, of(0, great)), wrong("-1 and a great one", api.ErrBig, of(-1, relu, great)), wrong("the last one great", api.ErrBig, of(2, append(slices.Repeat([]Layer{relu}, 15), great)...)))
	}
	for _, l := range wrongs {
		out = append(out, wrong("33 and a wrong one", api.ErrBig, of(33, l)), wrong("17 wrong ones", api.ErrBig, Net{2, slices.Repeat([]Layer{l}, 17)}), wrong("17 wrong ones and 0", api.ErrBig, Net{0, slices.Repeat([]Layer{l}, 17)}))
	}
	return out
}

func cases() []judged {
	return slices.Concat(ends(), rows(), places(), kinds(), both())
}

func TestLimits(t *testing.T) {
	if api.MaxUnits != 32 || api.MaxLayers != 16 || api.MaxText != 1000000 || api.MaxDigits != 20000 || Affine != 1 || Relu != 2 || Max != 3 {
		t.Error("other limits")
	}
}

func TestWidths(t *testing.T) {
	for _, c := range cases() {
		if got, e := Widths(c.n); !slices.Equal(got, c.want) || e != c.e {
			t.Errorf("Widths of %s: %v, %d, not %v, %d", c.name, got, e, c.want, c.e)
		}
		if want, e := widthsOf(c.n); !slices.Equal(want, c.want) || e != c.e {
			t.Errorf("%s: the judge says %v, %d", c.name, want, e)
		}
	}
}

// TestWidthsOfMany: networks in form, and such as have been changed a little.
func TestWidthsOfMany(t *testing.T) {
	s, said := some(3), map[api.Errno]int{}
	for range 20000 {
		n := s.net()
		for range s.below(3) {
			s.change(&n)
		}
		want, e := widthsOf(n)
		said[e]++
		if got, f := Widths(n); !slices.Equal(got, want) || e != f {
			t.Fatalf("Widths(%s) = %v, %d, not %v, %d", showAll(n), got, f, want, e)
		}
	}
	if said[api.OK] < 2000 || said[api.ErrForm] < 2000 {
		t.Errorf("%v", said)
	}
}

// TestTraceAndEval: of networks in form, at small numbers.
func TestTraceAndEval(t *testing.T) {
	s := some(5)
	for range 5000 {
		n := s.net()
		x := make([]rat.Rat, n.In)
		for i := range x {
			x[i] = s.number()
		}
		got, e := Trace(n, x)
		if e != api.OK || len(got) != len(n.Layers)+1 {
			t.Fatalf("Trace(%s, %s): %d lists, %d", showAll(n), show(x), len(got), e)
		}
		told := ""
		for _, l := range got {
			told += show(l)
		}
		if want := traceOf(n, x); told != want {
			t.Fatalf("Trace(%s, %s) = %s, not %s", showAll(n), show(x), told, want)
		}
		last, e := Eval(n, x)
		if e != api.OK || show(last) != show(got[len(got)-1]) {
			t.Fatalf("Eval(%s, %s) = %s, %d", showAll(n), show(x), show(last), e)
		}
	}
}

// TestTraceOfCases: the error of Widths first, whatever comes in; then that of the numbers' count.
func TestTraceOfCases(t *testing.T) {
	for _, c := range cases() {
		counts := []int{0, 1, 2, 31, 32, 33, 40}
		if c.n.In >= 0 && c.n.In < 50 {
			counts = append(counts, c.n.In)
		}
		for _, count := range counts {
			want := c.e
			if want == api.OK && count != c.n.In {
				want = api.ErrArg
			}
			trace, e := Trace(c.n, make([]rat.Rat, count))
			out, f := Eval(c.n, make([]rat.Rat, count))
			if e != want || f != want || e != api.OK && (len(trace) != 0 || len(out) != 0) {
				t.Errorf("%s, %d numbers: %d, %d, not %d", c.name, count, e, f, want)
			}
		}
	}
}

// TestEachKind: numbers below 0, 0, above 0 and alike ones.
func TestEachKind(t *testing.T) {
	third, half := frac(1, 3), frac(-1, 2)
	for _, c := range []struct {
		n       Net
		x, want []rat.Rat
	}{
		{of(4, relu), []rat.Rat{rat.Int(-2), {}, third, half}, []rat.Rat{{}, {}, third, {}}}, {of(1, relu), ints(-1), ints(0)}, {of(1, relu), ints(0), ints(0)}, {of(1, relu), ints(1), ints(1)}, {of(2, relu, relu), ints(-1, 1), ints(0, 1)},
		{of(3, groups(upTo(3))), ints(-1, -2, -3), ints(-1)}, {of(3, groups(upTo(3))), ints(-3, -2, -1), ints(-1)}, {of(3, groups(upTo(3))), ints(-3, 0, -1), ints(0)}, {of(3, groups(upTo(3))), ints(2, 2, 2), ints(2)}, {of(3, groups(upTo(3))), ints(2, 1, 2), ints(2)},
		{of(3, groups([]int{1})), ints(5, -7, 6), ints(-7)}, {of(3, groups([]int{2, 0}, []int{1, 1}, []int{0, 0, 2})), ints(5, 7, 6), ints(6, 7, 6)}, {of(2, groups([]int{1}, []int{0}, []int{1})), ints(1, 2), ints(2, 1, 2)},
		{of(2, groups([]int{0, 1})), []rat.Rat{half, frac(-1, 3)}, []rat.Rat{frac(-1, 3)}}, {of(2, groups([]int{0, 1})), []rat.Rat{third, frac(1, 2)}, []rat.Rat{frac(1, 2)}},
		{of(2, Layer{Kind: 1, W: [][]rat.Rat{ints(2, -3)}, B: ints(5)}), ints(7, 11), ints(-14)}, {of(1, Layer{Kind: 1, W: [][]rat.Rat{ints(0), ints(1), ints(-1)}, B: ints(4, 0, 1)}), ints(9), ints(4, 9, -8)},
		{of(2, Layer{Kind: 1, W: [][]rat.Rat{{third, third}}, B: []rat.Rat{third}}), ints(1, 1), ints(1)}, {of(2), []rat.Rat{half, third}, []rat.Rat{half, third}},
		{of(2, Layer{Kind: 1, W: [][]rat.Rat{ints(1, 1), ints(1, -1)}, B: ints(0, 0)}, relu, groups([]int{0, 1})), ints(-3, 1), ints(0)},
	} {
		if got, e := Eval(c.n, c.x); show(got) != show(c.want) || e != api.OK {
			t.Errorf("Eval(%s, %s) = %s, %d, not %s", showAll(c.n), show(c.x), show(got), e, show(c.want))
		}
	}
}

// TestWhatHasNoMeaning: the same comes out, whatever a layer has that its kind doesn't use.
func TestWhatHasNoMeaning(t *testing.T) {
	s := some(7)
	for range 2000 {
		n := s.net()
		bare := plain(n)
		x := make([]rat.Rat, n.In)
		for i := range x {
			x[i] = s.number()
		}
		for i := range n.Layers {
			l := &n.Layers[i]
			if l.Kind != 1 {
				l.W, l.B = [][]rat.Rat{nil, ints(1), make([]rat.Rat, 35)}[:s.below(4)], ints(5, 5, 5)[:s.below(4)]
			}
			if l.Kind != 3 {
				l.Groups = many(s.below(40), -1)
			}
		}
		one, e := Trace(n, x)
		two, f := Trace(bare, x)
		if e != api.OK || f != api.OK || !slices.EqualFunc(one, two, func(a, b []rat.Rat) bool { return show(a) == show(b) }) {
			t.Fatalf("Trace(%s, %s): %d, %d", showAll(n), show(x), e, f)
		}
	}
}

// TestGreatNetwork: as many layers of as many numbers as may be; great numbers are worked with exactly.
func TestGreatNetwork(t *testing.T) {
	n := Net{In: 32}
	for range 5 {
		n.Layers = append(n.Layers, affine(32, 32), relu, groups(many(32, upTo(32)...)...))
	}
	n.Layers = append(n.Layers, affine(32, 32))
	x := make([]rat.Rat, 32)
	for i := range x {
		x[i] = frac(i-7, 3)
	}
	got, e := Trace(n, x)
	if e != api.OK || len(got) != 17 {
		t.Fatalf("%d lists, %d", len(got), e)
	}
	told := ""
	for _, l := range got {
		told += show(l)
	}
	if told != traceOf(n, x) {
		t.Error("other numbers come out")
	}
	great, _ := rtext.Parse("1" + strings.Repeat("0", 19000))
	square, small := rat.Mul(great, great), frac(1, 7)
	m := of(2, Layer{Kind: 1, W: [][]rat.Rat{{great, square}}, B: []rat.Rat{small}}, relu, groups([]int{0}))
	y, e := Eval(m, []rat.Rat{rat.Neg(great), rat.Int(1)})
	if e != api.OK || len(y) != 1 || rat.Cmp(y[0], small) != 0 {
		t.Errorf("%d numbers, %d", len(y), e)
	}
}

// roomy: the same network, each list with room behind it, filled with what isn't of the list.
func roomy(n Net) Net {
	out := Net{In: n.In}
	for _, l := range n.Layers {
		r := Layer{Kind: l.Kind, B: room(l.B, rat.Int(77))}
		for _, row := range l.W {
			r.W = append(r.W, room(row, rat.Int(77)))
		}
		for _, group := range l.Groups {
			r.Groups = append(r.Groups, room(group, 77))
		}
		r.W, r.Groups = room(r.W, ints(77)), room(r.Groups, []int{77})
		out.Layers = append(out.Layers, r)
	}
	out.Layers = room(out.Layers, Layer{Kind: 77})
	return out
}

func room[T any](l []T, spare T) []T {
	return append(slices.Clone(l), spare, spare)[:len(l)]
}

// behindAll: what stands in the room behind a network's lists, told as text.
func behindAll(n Net) string {
	out := ""
	tell := func(l []rat.Rat) { out += show(l[len(l) : len(l)+2]) }
	for _, l := range n.Layers {
		tell(l.B)
		for _, row := range l.W {
			tell(row)
		}
		for _, row := range l.W[len(l.W) : len(l.W)+2] {
			out += show(row)
		}
		for _, group := range l.Groups {
			out += fmt.Sprint(group[len(group) : len(group)+2])
		}
		out += fmt.Sprint(l.Groups[len(l.Groups) : len(l.Groups)+2])
	}
	for _, l := range n.Layers[len(n.Layers) : len(n.Layers)+2] {
		out += fmt.Sprint(l.Kind)
	}
	return out
}

// spoil writes into all memory of a network.
func spoil(n Net) {
	for _, l := range n.Layers[:cap(n.Layers)] {
		fill(l.B, rat.Int(99))
		for _, row := range l.W[:cap(l.W)] {
			fill(row, rat.Int(99))
		}
		for _, group := range l.Groups[:cap(l.Groups)] {
			fill(group, 99)
		}
		fill(l.W, ints(99))
		fill(l.Groups, []int{99})
	}
	fill(n.Layers, Layer{Kind: 99})
}

func fill[T any](l []T, with T) {
	l = l[:cap(l)]
	for i := range l {
		l[i] = with
	}
}

func TestNothingIsChanged(t *testing.T) {
	s := some(9)
	for range 2000 {
		n := s.net()
		s.change(&n)
		given := roomy(n)
		kept := behindAll(given)
		x := room(make([]rat.Rat, max(n.In, 0)), rat.Int(55))
		x = x[:len(x)-s.below(2)*min(len(x), 1)]
		before := show(x[:cap(x)])
		widths, _ := Widths(given)
		fill(widths, 99)
		trace, _ := Trace(given, x)
		for _, l := range trace {
			fill(l, rat.Int(99))
		}
		fill(trace, ints(99))
		out, _ := Eval(given, x)
		fill(out, rat.Int(99))
		Print(given)
		if !same(given, n) || behindAll(given) != kept || show(x[:cap(x)]) != before {
			t.Fatalf("%s at %s is changed: %s", showAll(n), before, showAll(given))
		}
	}
}

// TestAnswersAreNew: what is done to an answer is nothing to what was handed in, nor to another answer; nor the other way.
func TestAnswersAreNew(t *testing.T) {
	s := some(11)
	for range 1000 {
		n := s.net()
		x := make([]rat.Rat, n.In)
		for i := range x {
			x[i] = s.number()
		}
		widths, _ := widthsOf(n)
		told, text := traceOf(n, x), showAll(plain(n))
		w1, _ := Widths(n)
		w2, _ := Widths(n)
		t1, _ := Trace(n, x)
		t2, _ := Trace(n, x)
		e1, _ := Eval(n, x)
		e2, _ := Eval(n, x)
		last := show(e1)
		printed, _ := Print(n)
		p1, _, _ := Parse(printed)
		p2, _, _ := Parse(printed)
		fill(w1, 99)
		for _, l := range t1 {
			fill(l, rat.Int(99))
		}
		fill(e1, rat.Int(99))
		fill(x, rat.Int(98))
		spoil(p1)
		spoil(n)
		got := ""
		for _, l := range t2 {
			got += show(l)
		}
		if p3, _, _ := Parse(printed); !slices.Equal(w2, widths) || got != told || show(e2) != last || showAll(p2) != text || showAll(p3) != text {
			t.Fatalf("an answer of %s is shared", text)
		}
	}
}

// TestListsOfAnAnswerAreApart: each may be written and made longer without another one's being changed.
func TestListsOfAnAnswerAreApart(t *testing.T) {
	s := some(13)
	for range 1000 {
		n := s.net()
		x := make([]rat.Rat, n.In)
		trace, _ := Trace(n, x)
		text, _ := Print(n)
		read, _, _ := Parse(text)
		lists := []*[]rat.Rat{}
		for i := range trace {
			lists = append(lists, &trace[i])
		}
		groups := []*[]int{}
		for i := range read.Layers {
			l := &read.Layers[i]
			lists = append(lists, &l.B)
			for j := range l.W {
				lists = append(lists, &l.W[j])
			}
			for j := range l.Groups {
				groups = append(groups, &l.Groups[j])
			}
		}
		for i, l := range lists {
			fill((*l)[:len(*l)], rat.Int(i))
			*l = append(*l, rat.Int(i))
		}
		for i, l := range groups {
			fill(*l, i)
			*l = append(*l, i)
		}
		for i, l := range lists {
			if slices.ContainsFunc(*l, func(r rat.Rat) bool { return rat.Cmp(r, rat.Int(i)) != 0 }) {
				t.Fatalf("list %d of the answers of %s is another one's", i, showAll(n))
			}
		}
		for i, l := range groups {
			if slices.ContainsFunc(*l, func(place int) bool { return place != i }) {
				t.Fatalf("group %d of %s is another one's", i, text)
			}
		}
	}
}

// TestExamples: those of the chapter, and those of the document's networks.
func TestExamples(t *testing.T) {
	for _, c := range []struct {
		text    string
		widths  []int
		x, want []rat.Rat
	}{
		{"net 2\naffine\nrow 1 -1/2 3\nrelu", []int{2, 1, 1}, ints(1, 2), ints(3)}, {"net 3\nmax\nof 0 2\nof 1", []int{3, 2}, ints(5, 7, 6), ints(6, 7)}, {"net 2", []int{2}, ints(8, -9), ints(8, -9)}, {"net 1", []int{1}, []rat.Rat{frac(1, 3)}, []rat.Rat{frac(1, 3)}},
		{"net 2\naffine\nrow 1 1 0\nrow 1 -1 0\nrelu\naffine\nrow 1 1 0", []int{2, 2, 2, 1}, ints(1, -1), ints(2)}, {"net 1\nrelu\n", []int{1, 1}, ints(-1), ints(0)}, {"net 2\nmax\nof 0 1\n", []int{2, 1}, ints(0, 1), ints(1)},
	} {
		n, line, e := Parse(c.text)
		if line != 0 || e != api.OK {
			t.Errorf("Parse(%q): %d in line %d", c.text, e, line)
		}
		if got, e := Widths(n); !slices.Equal(got, c.widths) || e != api.OK {
			t.Errorf("%q: %v, %d", c.text, got, e)
		}
		if got, e := Eval(n, c.x); show(got) != show(c.want) || e != api.OK {
			t.Errorf("%q: %s, %d", c.text, show(got), e)
		}
		if got, e := Eval(n, c.x[1:]); len(got) != 0 || e != api.ErrArg {
			t.Errorf("%q: %s, %d", c.text, show(got), e)
		}
	}
}
