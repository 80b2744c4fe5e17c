package span

import (
	"fmt"
	"math"
	"math/big"
	"slices"
	"strings"
	"testing"

	"attest/api"
	"attest/net"
	"attest/rat"
	"attest/rtext"
)

// some: a row of numbers put together at haphazard, the same ones each time.
type some uint64

// below: the next number, from 0 to n - 1.
func (s *some) below(n int) int {
	*s = *s*6364136223846793005 + 1442695040888963407
	return int(uint64(*s)>>33) % n
}

// number: a small rational number.
func (s *some) number() rat.Rat {
	return frac(s.below(13)-6, 1+s.below(4))
}

func (s *some) numbers(n int) []rat.Rat {
	out := make([]rat.Rat, n)
	for i := range out {
		out[i] = s.number()
	}
	return out
}

// spans: so many that are spans.
func (s *some) spans(n int) []Span {
	out := make([]Span, n)
	for i := range out {
		a, b := s.number(), s.number()
		out[i] = Span{rat.Min(a, b), rat.Max(a, b)}
	}
	return out
}

// anySpans: so many, of which some have their Lo above their Hi.
func (s *some) anySpans(n int) []Span {
	out := make([]Span, n)
	for i := range out {
		out[i] = Span{s.number(), s.number()}
	}
	return out
}

// within: a number of a span: an end, or one between.
func (s *some) within(x Span) rat.Rat {
	part := frac(s.below(5), 4)
	return rat.Add(x.Lo, rat.Mul(part, rat.Sub(x.Hi, x.Lo)))
}

func frac(n, d int) rat.Rat {
	r, _ := rat.Frac(n, d)
	return r
}

// ints: whole numbers.
func ints(l ...int) []rat.Rat {
	out := make([]rat.Rat, len(l))
	for i, n := range l {
		out[i] = rat.Int(n)
	}
	return out
}

// to: the span of two whole numbers.
func to(lo, hi int) Span {
	return Span{rat.Int(lo), rat.Int(hi)}
}

// alone: the span of one number.
func alone(r rat.Rat) Span {
	return Span{r, r}
}

// value: the number of a Rat, for big to work with.
func value(r rat.Rat) *big.Rat {
	out, _ := new(big.Rat).SetString(rtext.Print(r))
	return out
}

// ends: a span's ends as big's numbers.
type ends struct {
	lo, hi *big.Rat
}

func endsOf(s Span) ends {
	return ends{value(s.Lo), value(s.Hi)}
}

func (s ends) String() string {
	return s.lo.RatString() + ".." + s.hi.RatString()
}

// show: a span as a test tells it; two are told alike just if they are the same.
func show(s Span) string {
	return rtext.Print(s.Lo) + ".." + rtext.Print(s.Hi)
}

func showAll(l []Span) string {
	texts := make([]string, len(l))
	for i, s := range l {
		texts[i] = show(s)
	}
	return "[" + strings.Join(texts, " ") + "]"
}

func showLists(l [][]Span) string {
	texts := make([]string, len(l))
	for i, spans := range l {
		texts[i] = showAll(spans)
	}
	return strings.Join(texts, "")
}

func showNumbers(l []rat.Rat) string {
	texts := make([]string, len(l))
	for i, r := range l {
		texts[i] = rtext.Print(r)
	}
	return "[" + strings.Join(texts, " ") + "]"
}

func zero() *big.Rat { return new(big.Rat) }

// higher: the greater one of two numbers.
func higher(a, b *big.Rat) *big.Rat {
	if a.Cmp(b) < 0 {
		return b
	}
	return a
}

// scaled, added, cut, most and weighed are what Scale, Add, Relu, Max and Weigh should make, by big's numbers.
func scaled(r *big.Rat, s ends) ends {
	a, b := zero().Mul(r, s.lo), zero().Mul(r, s.hi)
	if a.Cmp(b) > 0 {
		return ends{b, a}
	}
	return ends{a, b}
}

func added(a, b ends) ends {
	return ends{zero().Add(a.lo, b.lo), zero().Add(a.hi, b.hi)}
}

func cut(s ends) ends {
	return ends{higher(s.lo, zero()), higher(s.hi, zero())}
}

func most(l []ends) ends {
	out := l[len(l)-1]
	for _, s := range l {
		out = ends{higher(out.lo, s.lo), higher(out.hi, s.hi)}
	}
	return out
}

func weighed(row []rat.Rat, more rat.Rat, x []ends) ends {
	out := endsOf(alone(more))
	for i, r := range row {
		out = added(scaled(value(r), x[i]), out)
	}
	return out
}

// throughOf: what Through should say of a network in form and of spans, as showLists tells it.
func throughOf(n net.Net, in []Span) string {
	var now []ends
	for _, s := range in {
		now = append(now, endsOf(s))
	}
	tell := func() string {
		texts := make([]string, len(now))
		for i, s := range now {
			texts[i] = s.String()
		}
		return "[" + strings.Join(texts, " ") + "]"
	}
	out := tell()
	for _, l := range n.Layers {
		var next []ends
		switch l.Kind {
		case 1:
			for i := range l.B {
				next = append(next, weighed(l.W[i], l.B[i], now))
			}
		case 2:
			for _, s := range now {
				next = append(next, cut(s))
			}
		case 3:
			for _, group := range l.Groups {
				var there []ends
				for _, place := range group {
					there = append(there, now[place])
				}
				next = append(next, most(there))
			}
		}
		now = next
		out += tell()
	}
	return out
}

// few: numbers below 0, 0, and above 0.
func few() []rat.Rat {
	return []rat.Rat{rat.Int(-2), rat.Int(-1), frac(-1, 2), rat.Int(0), frac(1, 3), rat.Int(1), rat.Int(2)}
}

// small: all spans of those ends, and all whose Lo is above their Hi.
func small() []Span {
	var out []Span
	for _, lo := range few() {
		for _, hi := range few() {
			out = append(out, Span{lo, hi})
		}
	}
	return out
}

// great: 10 to the power 19000.
func great() rat.Rat {
	out, _ := rtext.Parse("1" + strings.Repeat("0", 19000))
	return out
}

// tiny: a number above 0, as near to it as great is great.
func tiny() rat.Rat {
	out, _ := rat.Inv(great())
	return out
}

func TestCheck(t *testing.T) {
	for _, s := range small() {
		if want := value(s.Lo).Cmp(value(s.Hi)) < 1; Check(s) != want {
			t.Errorf("Check(%s) isn't %v", show(s), want)
		}
	}
	tiny := tiny()
	for _, c := range []struct {
		s    Span
		want bool
	}{
		{Span{}, true}, {alone(great()), true}, {alone(rat.Neg(great())), true}, {Span{rat.Neg(great()), great()}, true}, {Span{great(), rat.Neg(great())}, false},
		{Span{rat.Int(0), tiny}, true}, {Span{tiny, rat.Int(0)}, false}, {Span{rat.Int(1), rat.Add(rat.Int(1), tiny)}, true}, {Span{rat.Add(rat.Int(1), tiny), rat.Int(1)}, false},
		{Span{frac(2, 4), frac(1, 2)}, true}, {to(math.MinInt, math.MaxInt), true}, {to(math.MaxInt, math.MinInt), false},
	} {
		if Check(c.s) != c.want {
			t.Errorf("Check isn't %v", c.want)
		}
	}
}

func TestHas(t *testing.T) {
	for _, s := range small() {
		for _, r := range few() {
			want := value(r).Cmp(value(s.Lo)) > -1 && value(r).Cmp(value(s.Hi)) < 1
			if Has(s, r) != want {
				t.Errorf("Has(%s, %s) isn't %v", show(s), rtext.Print(r), want)
			}
		}
	}
}

// TestHasAtItsEnds: both ends, and numbers as near as can be on both sides of each.
func TestHasAtItsEnds(t *testing.T) {
	near := []rat.Rat{frac(1, 2), frac(1, math.MaxInt), tiny()}
	for _, s := range []Span{to(-1, 2), to(0, 1), to(-3, 0), to(2, 3), to(-5, -4), {frac(-1, 3), frac(1, 7)}} {
		if !Has(s, s.Lo) || !Has(s, s.Hi) {
			t.Errorf("%s doesn't have its ends", show(s))
		}
		for _, d := range near {
			d = rat.Mul(d, frac(1, 3))
			if !Has(s, rat.Add(s.Lo, d)) || !Has(s, rat.Sub(s.Hi, d)) {
				t.Errorf("%s doesn't have what is near its ends", show(s))
			}
			if Has(s, rat.Sub(s.Lo, d)) || Has(s, rat.Add(s.Hi, d)) {
				t.Errorf("%s has what is beyond its ends", show(s))
			}
		}
		turned := Span{s.Hi, s.Lo}
		for _, r := range []rat.Rat{s.Lo, s.Hi, rat.Add(s.Lo, tiny()), {}} {
			if Has(turned, r) {
				t.Errorf("%s has a number", show(turned))
			}
		}
	}
	for _, r := range append(few(), great(), tiny()) {
		if !Has(alone(r), r) || Has(alone(r), rat.Add(r, tiny())) || Has(alone(r), rat.Sub(r, tiny())) {
			t.Error("a span of one number")
		}
	}
}

func TestScale(t *testing.T) {
	for _, s := range small() {
		for _, r := range few() {
			if got, want := show(Scale(r, s)), scaled(value(r), endsOf(s)).String(); got != want {
				t.Errorf("Scale(%s, %s) = %s, not %s", rtext.Print(r), show(s), got, want)
			}
		}
	}
	for _, c := range []struct {
		r       rat.Rat
		s, want Span
	}{
		{rat.Int(0), to(-3, 5), Span{}}, {rat.Int(0), to(5, -3), Span{}}, {rat.Int(0), to(2, 2), Span{}}, {rat.Int(1), to(-3, 5), to(-3, 5)}, {rat.Int(-1), to(-3, 5), to(-5, 3)}, {rat.Int(2), to(-3, 5), to(-6, 10)}, {rat.Int(-2), to(-3, 5), to(-10, 6)},
		{rat.Int(-2), to(0, 5), to(-10, 0)}, {rat.Int(-2), to(-5, 0), to(0, 10)}, {rat.Int(2), to(0, 5), to(0, 10)}, {rat.Int(2), to(-5, 0), to(-10, 0)}, {rat.Int(-3), to(4, 4), to(-12, -12)}, {rat.Int(3), to(5, 1), to(3, 15)}, {rat.Int(-3), to(5, 1), to(-15, -3)},
		{frac(-1, 2), to(1, 3), Span{frac(-3, 2), frac(-1, 2)}}, {frac(1, 3), Span{frac(-3, 2), frac(3, 4)}, Span{frac(-1, 2), frac(1, 4)}}, {rat.Int(math.MinInt), to(0, 1), to(math.MinInt, 0)},
	} {
		if got := Scale(c.r, c.s); show(got) != show(c.want) {
			t.Errorf("Scale(%s, %s) = %s, not %s", rtext.Print(c.r), show(c.s), show(got), show(c.want))
		}
	}
}

func TestAdd(t *testing.T) {
	for _, a := range small() {
		for _, b := range small() {
			if got, want := show(Add(a, b)), added(endsOf(a), endsOf(b)).String(); got != want {
				t.Errorf("Add(%s, %s) = %s, not %s", show(a), show(b), got, want)
			}
		}
	}
	for _, c := range []struct{ a, b, want Span }{
		{to(-1, 2), to(10, 30), to(9, 32)}, {to(-1, 2), Span{}, to(-1, 2)}, {to(3, 3), to(4, 4), to(7, 7)}, {to(5, 1), to(1, 10), to(6, 11)}, {to(5, 1), to(7, 2), to(12, 3)}, {to(0, 5), to(0, -5), to(0, 0)},
		{Span{frac(1, 2), frac(2, 3)}, Span{frac(1, 3), frac(1, 6)}, Span{frac(5, 6), frac(5, 6)}}, {to(math.MaxInt, math.MaxInt), to(math.MinInt, 0), to(-1, math.MaxInt)},
	} {
		if got, turned := Add(c.a, c.b), Add(c.b, c.a); show(got) != show(c.want) || show(turned) != show(c.want) {
			t.Errorf("Add(%s, %s) = %s and %s, not %s", show(c.a), show(c.b), show(got), show(turned), show(c.want))
		}
	}
}

func TestRelu(t *testing.T) {
	for _, s := range small() {
		if got, want := show(Relu(s)), cut(endsOf(s)).String(); got != want {
			t.Errorf("Relu(%s) = %s, not %s", show(s), got, want)
		}
	}
	for _, c := range []struct{ s, want Span }{
		{to(-3, -1), Span{}}, {to(1, 3), to(1, 3)}, {to(-1, 3), to(0, 3)}, {to(-3, 0), Span{}}, {to(0, 3), to(0, 3)}, {Span{}, Span{}}, {to(-2, -2), Span{}}, {to(2, 2), to(2, 2)}, {to(3, 1), to(3, 1)}, {to(3, -1), to(3, 0)}, {to(-1, -3), Span{}},
		{Span{frac(-1, 2), frac(1, 2)}, Span{rat.Int(0), frac(1, 2)}}, {Span{rat.Neg(tiny()), tiny()}, Span{rat.Int(0), tiny()}},
	} {
		if got := Relu(c.s); show(got) != show(c.want) {
			t.Errorf("Relu of a span isn't %s", show(c.want))
		}
	}
}

func TestPhase(t *testing.T) {
	for _, s := range small() {
		want := 0
		if lo, hi := value(s.Lo), value(s.Hi); lo.Sign() > -1 {
			want = 1
		} else if hi.Sign() < 1 {
			want = -1
		}
		if got := Phase(s); got != want {
			t.Errorf("Phase(%s) = %d, not %d", show(s), got, want)
		}
	}
	for _, c := range []struct {
		s    Span
		want int
	}{
		{Span{}, 1}, {to(0, 1), 1}, {to(-1, 0), -1}, {to(-1, 1), 0}, {to(1, 2), 1}, {to(-2, -1), -1}, {to(3, 3), 1}, {to(-3, -3), -1}, {to(2, 1), 1}, {to(1, -1), 1}, {to(0, -1), 1}, {to(-1, -2), -1},
		{Span{rat.Neg(tiny()), tiny()}, 0}, {Span{tiny(), great()}, 1}, {Span{rat.Neg(great()), rat.Neg(tiny())}, -1}, {Span{rat.Neg(great()), tiny()}, 0}, {Span{rat.Neg(tiny()), great()}, 0},
	} {
		if got := Phase(c.s); got != c.want {
			t.Errorf("Phase = %d, not %d", got, c.want)
		}
	}
}

func TestMax(t *testing.T) {
	tell := func(l ...Span) {
		var there []ends
		for _, s := range l {
			there = append(there, endsOf(s))
		}
		if got, ok := Max(l); !ok || show(got) != most(there).String() {
			t.Errorf("Max(%s) = %s, %v", showAll(l), show(got), ok)
		}
	}
	for _, a := range small() {
		tell(a)
		for _, b := range small() {
			tell(a, b)
			tell(a, b, a)
		}
	}
	s := some(3)
	for range 3000 {
		tell(s.anySpans(1 + s.below(6))...)
	}
	for _, c := range []struct {
		l    []Span
		want Span
	}{
		{[]Span{to(-3, -1)}, to(-3, -1)}, {[]Span{to(-3, -1), to(-3, -1), to(-3, -1)}, to(-3, -1)}, {[]Span{to(-5, -1), to(-3, -2)}, to(-3, -1)}, {[]Span{to(-3, -2), to(-5, -1)}, to(-3, -1)}, {[]Span{to(0, 9), to(1, 2), to(3, 4)}, to(3, 9)},
		{[]Span{to(0, 0), to(-1, -1)}, Span{}}, {[]Span{to(5, 1), to(2, 3)}, to(5, 3)}, {[]Span{to(5, 1)}, to(5, 1)}, {[]Span{to(0, 1), to(2, 3)}, to(2, 3)}, {[]Span{to(2, 3), to(0, 1)}, to(2, 3)}, {slices.Repeat([]Span{to(1, 2)}, 1000), to(1, 2)},
	} {
		if got, ok := Max(c.l); !ok || show(got) != show(c.want) {
			t.Errorf("Max(%s) = %s, %v", showAll(c.l), show(got), ok)
		}
	}
}

func TestMaxOfNone(t *testing.T) {
	for _, l := range [][]Span{nil, {}, make([]Span, 0, 5), []Span{to(1, 2)}[:0]} {
		if got, ok := Max(l); ok || show(got) != show(Span{}) {
			t.Errorf("Max of none: %s, %v", show(got), ok)
		}
	}
}

func TestWeigh(t *testing.T) {
	s := some(5)
	for range 5000 {
		n := s.below(6)
		row, more, x := s.numbers(n), s.number(), s.anySpans(n)
		var there []ends
		for _, span := range x {
			there = append(there, endsOf(span))
		}
		if got, e := Weigh(row, more, x); e != api.OK || show(got) != weighed(row, more, there).String() {
			t.Fatalf("Weigh(%s, %s, %s) = %s, %d", showNumbers(row), rtext.Print(more), showAll(x), show(got), e)
		}
	}
	twice := to(-1, 3)
	for _, c := range []struct {
		row  []rat.Rat
		more rat.Rat
		x    []Span
		want Span
	}{
		{nil, rat.Int(7), nil, to(7, 7)}, {ints(), frac(-1, 2), []Span{}, alone(frac(-1, 2))}, {ints(0), rat.Int(7), []Span{to(-5, 5)}, to(7, 7)}, {ints(0, 2, 0), rat.Int(1), []Span{to(-5, 5), to(1, 2), to(9, 8)}, to(3, 5)},
		{ints(-2), rat.Int(0), []Span{to(1, 3)}, to(-6, -2)}, {ints(-2, -3), rat.Int(1), []Span{to(1, 3), to(-1, 0)}, to(-5, 2)}, {ints(1, 1), rat.Int(0), []Span{twice, twice}, to(-2, 6)}, {ints(1, -1), rat.Int(0), []Span{twice, twice}, to(-4, 4)},
		{ints(1, -1, 2), rat.Int(10), []Span{twice, twice, twice}, to(4, 20)}, {ints(1), rat.Int(0), []Span{to(5, 1)}, to(1, 5)}, {ints(-1, 1), rat.Int(0), []Span{to(5, 1), to(0, 1)}, to(-5, 0)}, {ints(3), rat.Int(4), []Span{to(2, 2)}, to(10, 10)},
	} {
		if got, e := Weigh(c.row, c.more, c.x); e != api.OK || show(got) != show(c.want) {
			t.Errorf("Weigh(%s, %s, %s) = %s, %d, not %s", showNumbers(c.row), rtext.Print(c.more), showAll(c.x), show(got), e, show(c.want))
		}
	}
}

// TestWeighOfUnlikeLists: either list may be the longer one, empty ones too; spans and other ones.
func TestWeighOfUnlikeLists(t *testing.T) {
	s := some(7)
	for i := range 6 {
		for j := range 6 {
			_, e := Weigh(s.numbers(i), rat.Int(5), s.anySpans(j))
			if (e == api.OK) != (i == j) {
				t.Errorf("%d numbers, %d spans: %d", i, j, e)
			}
			if got, e := Weigh(s.numbers(i), rat.Int(5), s.anySpans(j)); i != j && (e != api.ErrArg || show(got) != show(Span{})) {
				t.Errorf("%d numbers, %d spans: %s, %d", i, j, show(got), e)
			}
		}
	}
}

// net: a network in form; now and then with things in it that have no meaning.
func (s *some) net() net.Net {
	n := net.Net{In: 1 + s.below(4)}
	ahead := n.In
	for range s.below(5) {
		l := net.Layer{Kind: 1 + s.below(3)}
		behind := 1 + s.below(4)
		if l.Kind == 1 || s.below(4) == 0 {
			for range behind {
				l.W, l.B = append(l.W, s.numbers(ahead)), append(l.B, s.number())
			}
		}
		if l.Kind == 3 || s.below(4) == 0 {
			for range behind {
				var group []int
				for range 1 + s.below(4) {
					group = append(group, s.below(ahead))
				}
				l.Groups = append(l.Groups, group)
			}
		}
		if l.Kind != 2 {
			ahead = behind
		}
		n.Layers = append(n.Layers, l)
	}
	return n
}

// of: a network of these layers.
func of(in int, layers ...net.Layer) net.Net {
	return net.Net{In: in, Layers: layers}
}

// affine: a layer of such rows, each with its number of B behind the others.
func affine(rows ...[]rat.Rat) net.Layer {
	l := net.Layer{Kind: net.Affine}
	for _, row := range rows {
		last := len(row) - 1
		l.W, l.B = append(l.W, row[:last:last]), append(l.B, row[last])
	}
	return l
}

func groups(l ...[]int) net.Layer {
	return net.Layer{Kind: net.Max, Groups: l}
}

var relu = net.Layer{Kind: net.Relu}

func TestThrough(t *testing.T) {
	s := some(9)
	for range 4000 {
		n := s.net()
		in := s.spans(n.In)
		got, e := Through(n, in)
		if e != api.OK || len(got) != len(n.Layers)+1 || showLists(got) != throughOf(n, in) {
			t.Fatalf("Through(%v, %s) = %s, %d, not %s", n, showAll(in), showLists(got), e, throughOf(n, in))
		}
	}
}

// TestThroughEachKind: networks without layers, and of each kind, with what comes out written down.
func TestThroughEachKind(t *testing.T) {
	mixed := []Span{to(-1, 2), to(0, 5), to(3, 4)}
	for _, c := range []struct {
		n    net.Net
		in   []Span
		want string
	}{
		{of(1), []Span{to(-1, 2)}, "[-1..2]"}, {of(3), mixed, "[-1..2 0..5 3..4]"}, {net.Net{In: 2, Layers: []net.Layer{}}, mixed[:2], "[-1..2 0..5]"},
		{of(1, relu), []Span{to(-1, 2)}, "[-1..2][0..2]"}, {of(3, relu), []Span{to(-3, -1), to(-1, 0), to(1, 1)}, "[-3..-1 -1..0 1..1][0..0 0..0 1..1]"}, {of(1, relu, relu), []Span{to(-1, 2)}, "[-1..2][0..2][0..2]"},
		{of(3, groups([]int{0, 1, 2})), mixed, "[-1..2 0..5 3..4][3..5]"}, {of(3, groups([]int{2, 0}, []int{1}, []int{1, 1})), mixed, "[-1..2 0..5 3..4][3..4 0..5 0..5]"}, {of(1, groups([]int{0, 0, 0}, []int{0})), mixed[:1], "[-1..2][-1..2 -1..2]"},
		{of(2, groups([]int{1}, []int{0})), mixed[:2], "[-1..2 0..5][0..5 -1..2]"}, {of(2, groups([]int{0}, []int{1}, []int{0, 1, 0}), groups([]int{2})), mixed[:2], "[-1..2 0..5][-1..2 0..5 0..5][0..5]"},
		{of(1, affine(ints(2, -1)), relu), []Span{to(0, 1)}, "[0..1][-1..1][0..1]"}, {of(2, affine(ints(1, -1, 0), ints(0, 0, 7), ints(-2, 3, 1))), mixed[:2], "[-1..2 0..5][-6..2 7..7 -3..18]"},
		{of(1, affine(ints(1, 0), ints(1, 0)), affine(ints(1, -1, 0))), mixed[:1], "[-1..2][-1..2 -1..2][-3..3]"}, {of(1, affine(ints(-1, 0)), affine(ints(-1, 5))), mixed[:1], "[-1..2][-2..1][4..7]"}, {of(2, affine(ints(3, 4, 5))), []Span{to(1, 1), to(2, 2)}, "[1..1 2..2][16..16]"},
		{of(2, affine(ints(1, 1, 0), ints(1, -1, 0)), relu, affine(ints(1, 1, 0))), []Span{to(-1, 1), to(-1, 1)}, "[-1..1 -1..1][-2..2 -2..2][0..2 0..2][0..4]"}, {of(1, affine([]rat.Rat{frac(1, 3), frac(-1, 2)})), []Span{{frac(-1, 2), frac(3, 2)}}, "[-1/2..3/2][-2/3..0]"},
	} {
		if got, e := Through(c.n, c.in); e != api.OK || showLists(got) != c.want {
			t.Errorf("Through(%v, %s) = %s, %d, not %s", c.n, showAll(c.in), showLists(got), e, c.want)
		}
	}
}

// wrongs: networks that are too great or not in form, with what net.Widths should say.
func wrongs() map[api.Errno][]net.Net {
	long, wide := affine(slices.Repeat([][]rat.Rat{ints(1, 0)}, 33)...), affine(make([]rat.Rat, 34))
	return map[api.Errno][]net.Net{
		api.ErrBig: {
			of(33), of(math.MaxInt), {In: 1, Layers: slices.Repeat([]net.Layer{relu}, 17)}, of(1, long), of(1, wide), of(1, relu, long), of(0, long), of(-1, wide), of(1, groups(slices.Repeat([][]int{{0}}, 33)...)), of(1, groups(make([]int, 33))),
			of(1, net.Layer{}, wide), of(33, net.Layer{Kind: 9}),
		},
		api.ErrForm: {
			{}, of(0), of(-1), of(math.MinInt), of(0, relu), of(1, net.Layer{}), of(1, net.Layer{Kind: 4}), of(1, net.Layer{Kind: -1}), of(2, relu, net.Layer{Kind: math.MaxInt}), of(1, affine()), of(1, affine(ints(1, 2, 3))), of(2, affine(ints(1, 2))), of(1, groups()), of(1, groups(nil)),
			of(1, groups([]int{1})), of(1, groups([]int{-1})), of(2, groups([]int{0}), groups([]int{1})), of(1, net.Layer{Kind: 1, W: [][]rat.Rat{ints(1)}}), of(1, net.Layer{Kind: 1, W: [][]rat.Rat{ints(1)}, B: ints(1, 2)}), of(1, net.Layer{Kind: 1, B: ints(1)}),
		},
	}
}

// refused: does Through answer that error, and nothing beside it?
func refused(t *testing.T, n net.Net, in []Span, want api.Errno) {
	t.Helper()
	if got, e := Through(n, in); e != want || len(got) != 0 {
		t.Errorf("Through(%v, %s): %d lists, %d, not %d", n, showAll(in), len(got), e, want)
	}
}

// TestErrorsOfNetworks: they go ahead of those of the spans, whatever these are.
func TestErrorsOfNetworks(t *testing.T) {
	for want, nets := range wrongs() {
		for _, n := range nets {
			if _, e := net.Widths(n); e != want {
				t.Errorf("Widths(%v): %d, not %d", n, e, want)
			}
			for _, count := range []int{0, 1, 2, 3, 33} {
				refused(t, n, make([]Span, count), want)
				refused(t, n, slices.Repeat([]Span{to(1, 0)}, count), want)
			}
		}
	}
}

// TestErrorsOfSpans: too few, too many, and such as are none, at each place; that of their count goes first.
func TestErrorsOfSpans(t *testing.T) {
	for _, n := range []net.Net{of(1), of(3), of(3, relu), of(3, affine(ints(1, 2, 3, 4))), of(3, groups([]int{1})), of(32), of(32, relu, groups([]int{0}))} {
		for count := range 40 {
			in := make([]Span, count)
			if count != n.In {
				refused(t, n, in, api.ErrArg)
				refused(t, n, slices.Repeat([]Span{to(2, 1)}, count), api.ErrArg)
				continue
			}
			if got, e := Through(n, in); e != api.OK || len(got) != len(n.Layers)+1 {
				t.Errorf("Through(%v): %d lists, %d", n, len(got), e)
			}
			for place := range in {
				for _, none := range []Span{to(1, 0), to(0, -1), {tiny(), rat.Int(0)}} {
					given := slices.Clone(in)
					given[place] = none
					refused(t, n, given, api.ErrForm)
				}
			}
			refused(t, n, slices.Repeat([]Span{to(2, 1)}, count), api.ErrForm)
		}
	}
	refused(t, of(3, relu), nil, api.ErrArg)
	refused(t, of(2, groups([]int{0})), []Span{to(0, 1), to(1, 0)}, api.ErrForm) // no group speaks of what is none
	refused(t, of(2, affine(ints(1, 0, 0))), []Span{to(0, 1), to(1, 0)}, api.ErrForm)
}

// TestWhatHasNoMeaning: the same comes out, whatever a layer has that its kind doesn't use.
func TestWhatHasNoMeaning(t *testing.T) {
	s := some(11)
	for range 2000 {
		n := s.net()
		in := s.spans(n.In)
		for i := range n.Layers {
			l := &n.Layers[i]
			if l.Kind != 1 {
				l.W, l.B = [][]rat.Rat{nil, ints(1), make([]rat.Rat, 35)}[:s.below(4)], ints(5, 5, 5)[:s.below(4)]
			}
			if l.Kind != 3 {
				l.Groups = slices.Repeat([][]int{{-1, 99}}, s.below(40))
			}
		}
		if got, e := Through(n, in); e != api.OK || showLists(got) != throughOf(n, in) {
			t.Fatalf("Through(%v, %s) = %s, %d", n, showAll(in), showLists(got), e)
		}
	}
}

// TestGreatNetwork: as many layers of as many numbers as may be.
func TestGreatNetwork(t *testing.T) {
	s := some(13)
	n, all := net.Net{In: 32}, make([]int, 32)
	for i := range all {
		all[i] = i
	}
	for range 5 {
		var rows [][]rat.Rat
		for range 32 {
			rows = append(rows, s.numbers(33))
		}
		n.Layers = append(n.Layers, affine(rows...), relu, groups(slices.Repeat([][]int{all}, 32)...))
	}
	n.Layers = append(n.Layers, n.Layers[0])
	in := s.spans(32)
	if got, e := Through(n, in); e != api.OK || len(got) != 17 || showLists(got) != throughOf(n, in) {
		t.Errorf("%d lists, %d", len(got), e)
	}
}

// TestGreatNumbers: they are worked with exactly.
func TestGreatNumbers(t *testing.T) {
	g, small := great(), tiny()
	wide := Span{rat.Neg(g), small}
	square := rat.Mul(g, g)
	for _, c := range []struct{ got, want Span }{
		{Scale(g, wide), Span{rat.Neg(square), rat.Int(1)}}, {Scale(rat.Neg(g), wide), Span{rat.Int(-1), square}}, {Scale(small, wide), Span{rat.Int(-1), rat.Mul(small, small)}}, {Add(wide, Span{g, g}), Span{rat.Int(0), rat.Add(g, small)}},
		{Relu(wide), Span{rat.Int(0), small}}, {Relu(Span{small, g}), Span{small, g}},
	} {
		if show(c.got) != show(c.want) {
			t.Error("other great numbers")
		}
	}
	if got, ok := Max([]Span{{small, g}, {rat.Neg(small), rat.Add(g, small)}}); !ok || show(got) != show(Span{small, rat.Add(g, small)}) {
		t.Error("Max of great numbers")
	}
	if got, e := Weigh([]rat.Rat{g, rat.Neg(g)}, small, []Span{wide, wide}); e != api.OK || show(got) != show(Span{rat.Add(rat.Sub(rat.Neg(square), rat.Int(1)), small), rat.Add(rat.Add(square, rat.Int(1)), small)}) {
		t.Error("Weigh of great numbers")
	}
	n, in := of(2, affine([]rat.Rat{g, square, small}), relu, groups([]int{0})), []Span{wide, {small, rat.Int(1)}}
	if got, e := Through(n, in); e != api.OK || showLists(got) != throughOf(n, in) {
		t.Error("Through of great numbers")
	}
	if _, e := Through(of(1), []Span{{g, rat.Sub(g, small)}}); e != api.ErrForm {
		t.Error("Lo a little above Hi")
	}
}

// TestWhatTheyHold: of numbers in the spans each answer has what the numbers make.
func TestWhatTheyHold(t *testing.T) {
	s := some(15)
	for range 4000 {
		l := s.spans(1 + s.below(4))
		row, more := s.numbers(len(l)), s.number()
		x, sum := make([]rat.Rat, len(l)), more
		for i, span := range l {
			x[i] = s.within(span)
			sum = rat.Add(sum, rat.Mul(row[i], x[i]))
			if !Has(Scale(row[i], span), rat.Mul(row[i], x[i])) || !Has(Relu(span), rat.Max(x[i], rat.Int(0))) || !Has(Add(span, l[0]), rat.Add(x[i], x[0])) {
				t.Fatalf("Scale, Relu or Add of %s doesn't have what is made of %s", show(span), rtext.Print(x[i]))
			}
			if phase, sign := Phase(span), rat.Sign(x[i]); phase == 1 && sign < 0 || phase == -1 && sign > 0 {
				t.Fatalf("Phase(%s) = %d", show(span), phase)
			}
		}
		if got, _ := Max(l); !Has(got, slices.MaxFunc(x, rat.Cmp)) {
			t.Fatalf("Max(%s) doesn't have the greatest one of %s", showAll(l), showNumbers(x))
		}
		if got, _ := Weigh(row, more, l); !Has(got, sum) {
			t.Fatalf("Weigh(%s, %s, %s) doesn't have %s", showNumbers(row), rtext.Print(more), showAll(l), rtext.Print(sum))
		}
	}
}

// TestBothEndsAreMade: by ends of the spans that are handed in.
func TestBothEndsAreMade(t *testing.T) {
	s := some(17)
	for range 2000 {
		l := s.spans(1 + s.below(4))
		row, more := s.numbers(len(l)), s.number()
		var scaled, added, cut, greatest, sums []rat.Rat
		for _, a := range []rat.Rat{l[0].Lo, l[0].Hi} {
			scaled, cut = append(scaled, rat.Mul(row[0], a)), append(cut, rat.Max(a, rat.Int(0)))
			for _, b := range []rat.Rat{l[len(l)-1].Lo, l[len(l)-1].Hi} {
				added = append(added, rat.Add(a, b))
			}
		}
		for bits := range 1 << len(l) {
			x, sum := make([]rat.Rat, len(l)), more
			for i, span := range l {
				x[i] = []rat.Rat{span.Lo, span.Hi}[bits>>i&1]
				sum = rat.Add(sum, rat.Mul(row[i], x[i]))
			}
			greatest, sums = append(greatest, slices.MaxFunc(x, rat.Cmp)), append(sums, sum)
		}
		most, _ := Max(l)
		weighed, _ := Weigh(row, more, l)
		for name, c := range map[string]struct {
			got  Span
			made []rat.Rat
		}{"Scale": {Scale(row[0], l[0]), scaled}, "Add": {Add(l[0], l[len(l)-1]), added}, "Relu": {Relu(l[0]), cut}, "Max": {most, greatest}, "Weigh": {weighed, sums}} {
			if want := (Span{slices.MinFunc(c.made, rat.Cmp), slices.MaxFunc(c.made, rat.Cmp)}); show(c.got) != show(want) {
				t.Fatalf("%s = %s, not %s", name, show(c.got), show(want))
			}
		}
	}
}

// TestThroughHolds: what layer 15 says of numbers in the spans is in those behind each layer, and these are spans.
func TestThroughHolds(t *testing.T) {
	s := some(19)
	for range 1500 {
		n := s.net()
		in := s.spans(n.In)
		spans, _ := Through(n, in)
		for range 8 {
			x := make([]rat.Rat, n.In)
			for i := range x {
				x[i] = s.within(in[i])
			}
			trace, _ := net.Trace(n, x)
			for i, numbers := range trace {
				for j, r := range numbers {
					if !Has(spans[i][j], r) || !Check(spans[i][j]) {
						t.Fatalf("Through(%v, %s) = %s, but %s makes %s", n, showAll(in), showLists(spans), showNumbers(x), showNumbers(numbers))
					}
				}
			}
		}
	}
}

// TestThroughOfPoints: of spans of one number each there is one number behind each layer too: that of layer 15.
func TestThroughOfPoints(t *testing.T) {
	s := some(21)
	for range 1500 {
		n := s.net()
		x := s.numbers(n.In)
		in := make([]Span, n.In)
		for i, r := range x {
			in[i] = alone(r)
		}
		trace, _ := net.Trace(n, x)
		want := make([][]Span, len(trace))
		for i, numbers := range trace {
			for _, r := range numbers {
				want[i] = append(want[i], alone(r))
			}
		}
		if got, e := Through(n, in); e != api.OK || showLists(got) != showLists(want) {
			t.Fatalf("Through(%v, %s) = %s, %d", n, showAll(in), showLists(got), e)
		}
	}
}

// room: the same list, with room behind it, filled with what isn't of the list.
func room[T any](l []T, spare T) []T {
	return append(slices.Clone(l), spare, spare)[:len(l)]
}

// fill writes into a list and the room behind it.
func fill[T any](l []T, with T) {
	l = l[:cap(l)]
	for i := range l {
		l[i] = with
	}
}

// roomy: the same network, each list with room behind it.
func roomy(n net.Net) net.Net {
	out := net.Net{In: n.In}
	for _, l := range n.Layers {
		r := net.Layer{Kind: l.Kind, B: room(l.B, rat.Int(77))}
		for _, row := range l.W {
			r.W = append(r.W, room(row, rat.Int(77)))
		}
		for _, group := range l.Groups {
			r.Groups = append(r.Groups, room(group, 77))
		}
		r.W, r.Groups = room(r.W, ints(77)), room(r.Groups, []int{77})
		out.Layers = append(out.Layers, r)
	}
	out.Layers = room(out.Layers, net.Layer{Kind: 77})
	return out
}

// told: all that a network has, the room behind its lists too.
func told(n net.Net) string {
	out := fmt.Sprint(n.In)
	for _, l := range n.Layers[:cap(n.Layers)] {
		out += fmt.Sprint("; ", l.Kind, showNumbers(l.B[:cap(l.B)]))
		for _, row := range l.W[:cap(l.W)] {
			out += showNumbers(row[:cap(row)])
		}
		for _, group := range l.Groups[:cap(l.Groups)] {
			out += fmt.Sprint(group[:cap(group)])
		}
	}
	return out
}

// spoil writes into all memory of a network.
func spoil(n net.Net) {
	for _, l := range n.Layers {
		fill(l.B, rat.Int(99))
		for _, row := range l.W {
			fill(row, rat.Int(99))
		}
		for _, group := range l.Groups {
			fill(group, 99)
		}
		fill(l.W, ints(99))
		fill(l.Groups, []int{99})
	}
	fill(n.Layers, net.Layer{Kind: 99})
}

func spoilAll(l [][]Span) {
	for _, spans := range l {
		fill(spans, to(99, 99))
	}
	fill(l, []Span{to(99, 99)})
}

func TestNothingIsChanged(t *testing.T) {
	s := some(23)
	for range 2000 {
		n := roomy(s.net())
		in, row := room(s.anySpans(n.In), to(55, 44)), room(s.numbers(n.In), rat.Int(55))
		if s.below(2) == 0 {
			in = room(s.spans(n.In), to(55, 44))
		}
		if s.below(4) == 0 {
			in = in[:len(in)-1]
		}
		tell := func() string { return told(n) + showAll(in[:cap(in)]) + showNumbers(row[:cap(row)]) }
		before := tell()
		got, _ := Through(n, in)
		spoilAll(got)
		Weigh(row, rat.Int(1), in)
		Max(in)
		if tell() != before {
			t.Fatalf("%s is changed: %s", before, tell())
		}
	}
}

// TestAnswersAreNew: what is done to an answer is nothing to what was handed in, nor to another answer; nor the other way.
func TestAnswersAreNew(t *testing.T) {
	s := some(25)
	for range 1000 {
		n := s.net()
		in := s.spans(n.In)
		want := throughOf(n, in)
		one, _ := Through(n, in)
		two, _ := Through(n, in)
		spoilAll(one)
		three, _ := Through(n, in)
		spoil(n)
		fill(in, to(98, 98))
		if showLists(two) != want || showLists(three) != want {
			t.Fatalf("an answer is shared: %s and %s, not %s", showLists(two), showLists(three), want)
		}
	}
}

// TestListsOfAnAnswerAreApart: each may be written and made longer without another one's being changed.
func TestListsOfAnAnswerAreApart(t *testing.T) {
	s := some(27)
	for range 1000 {
		n := s.net()
		got, _ := Through(n, s.spans(n.In))
		for i := range got {
			for j := range got[i] {
				got[i][j] = to(i, i)
			}
			got[i] = append(got[i], to(i, i))
		}
		for i, l := range got {
			if slices.ContainsFunc(l, func(x Span) bool { return show(x) != show(to(i, i)) }) {
				t.Fatalf("list %d of an answer is another one's", i)
			}
		}
	}
}

// TestExamples: those of the chapter.
func TestExamples(t *testing.T) {
	for _, c := range []struct{ got, want Span }{{Scale(rat.Int(-2), to(1, 3)), to(-6, -2)}, {Relu(to(-1, 2)), to(0, 2)}} {
		if show(c.got) != show(c.want) {
			t.Errorf("%s, not %s", show(c.got), show(c.want))
		}
	}
	if got, ok := Max([]Span{to(0, 5), to(3, 4)}); !ok || show(got) != "3..5" {
		t.Errorf("Max: %s, %v", show(got), ok)
	}
	if got, ok := Max(nil); ok || show(got) != "0..0" {
		t.Errorf("Max of none: %s, %v", show(got), ok)
	}
	if Phase(to(0, 0)) != 1 || Phase(to(-1, 0)) != -1 {
		t.Error("Phase")
	}
	if got, e := Weigh(ints(1, -1), frac(1, 2), []Span{to(0, 1), to(0, 1)}); e != api.OK || show(got) != "-1/2..3/2" {
		t.Errorf("Weigh: %s, %d", show(got), e)
	}
	n, _, _ := net.Parse("net 1\naffine\nrow 2 -1\nrelu")
	if got, e := Through(n, []Span{to(0, 1)}); e != api.OK || showLists(got) != "[0..1][-1..1][0..1]" {
		t.Errorf("Through: %s, %d", showLists(got), e)
	}
	refused(t, n, []Span{to(1, 0)}, api.ErrForm)
}
