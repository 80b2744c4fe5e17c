package intern

import (
	"math"
	"slices"
	"testing"

	"attest/api"
)

// model is a table as the document tells it, slow and plain: nodes are found by looking at all of them.
type model struct {
	nodes []Node
}

func start() *model {
	return &model{[]Node{{1, 0, 0}, {2, 0, 0}}}
}

func (m *model) there(i int) bool {
	return 0 <= i && i < len(m.nodes)
}

func (m *model) add(n Node) int {
	if i := slices.Index(m.nodes, n); i >= 0 {
		return i
	}
	if len(m.nodes) == 20000 {
		return -1
	}
	m.nodes = append(m.nodes, n)
	return len(m.nodes) - 1
}

// do: the number, or -1.
func (m *model) do(op Op) int {
	a, b := op.A, op.B
	switch op.Kind {
	case 1:
		return 0
	case 2:
		return 1
	case 3:
		if a < 0 {
			return -1
		}
		return m.add(Node{3, a, 0})
	case 4:
		if !m.there(a) {
			return -1
		}
		if a == 0 || a == 1 {
			return 1 - a
		}
		if m.nodes[a].Kind == 4 {
			return m.nodes[a].A
		}
		return m.add(Node{4, a, 0})
	case 5, 6:
		if !m.there(a) || !m.there(b) {
			return -1
		}
		return m.both(op.Kind, a, b, op.Kind-5)
	}
	return -1
}

// both: And, if low is 0, and Or, if it is 1.
func (m *model) both(kind, a, b, low int) int {
	if a == low || b == low || m.nodes[a] == (Node{4, b, 0}) || m.nodes[b] == (Node{4, a, 0}) {
		return low
	}
	if a == 1-low || a == b {
		return b
	}
	if b == 1-low {
		return a
	}
	if a > b {
		a, b = b, a
	}
	return m.add(Node{kind, a, b})
}

// reach: the numbers below and at i, in a set.
func (m *model) reach(i int, set map[int]bool) {
	set[i] = true
	switch n := m.nodes[i]; n.Kind {
	case 4:
		m.reach(n.A, set)
	case 5, 6:
		m.reach(n.A, set)
		m.reach(n.B, set)
	}
}

// eval: the truth, by going down.
func (m *model) eval(i int, vals func(int) bool) bool {
	switch n := m.nodes[i]; n.Kind {
	case 2:
		return true
	case 3:
		return vals(n.A)
	case 4:
		return !m.eval(n.A, vals)
	case 5:
		return m.eval(n.A, vals) && m.eval(n.B, vals)
	case 6:
		return m.eval(n.A, vals) || m.eval(n.B, vals)
	}
	return false
}

// some: a row of numbers put together at haphazard, the same ones each time.
type some uint64

// below: the next number, from 0 to n - 1.
func (s *some) below(n int) int {
	*s = *s*6364136223846793005 + 1442695040888963407
	return int(uint64(*s)>>33) % n
}

// ops: operations of all kinds, most of them on nodes that are there then, some with operands from -1 to just beyond the
// last node, and with fields that a kind doesn't use filled.
func ops(seed, count, vars int) []Op {
	s, m := some(seed), start()
	operand := func() int {
		if s.below(6) == 0 {
			return s.below(len(m.nodes)+2) - 1
		}
		return min(2, len(m.nodes)-1) + s.below(max(1, len(m.nodes)-2))
	}
	out := make([]Op, count)
	for i := range out {
		op := Op{[]int{1, 2, 3, 3, 4, 4, 5, 5, 5, 6, 6, 6}[s.below(12)], operand(), operand()}
		if op.Kind == 3 {
			op.A = s.below(vars+1) - 1
		}
		if s.below(40) == 0 {
			op.Kind = []int{0, 7, -1, 8, math.MinInt, math.MaxInt}[s.below(6)]
		}
		m.do(op)
		out[i] = op
	}
	return out
}

func TestNumbersOfNames(t *testing.T) {
	if False != 1 || True != 2 || Var != 3 || Not != 4 || And != 5 || Or != 6 {
		t.Error("the names' numbers")
	}
}

func TestPlay(t *testing.T) {
	ground := []Node{{False, 0, 0}, {True, 0, 0}}
	xy := []Op{{Var, 5, 0}, {Var, 7, 0}} // nodes 2 and 3
	xyNodes := []Node{{False, 0, 0}, {True, 0, 0}, {Var, 5, 0}, {Var, 7, 0}}
	cases := []struct {
		name    string
		first   []Op
		ops     []Op
		answers []int
		before  []Node
		added   []Node
	}{
		{"none", nil, nil, nil, ground, nil},
		{"empty", nil, []Op{}, nil, ground, nil},
		{"example", xy, []Op{{And, 2, 3}, {And, 3, 2}, {Not, 4, 0}, {Not, 5, 0}, {And, 4, 5}, {Or, 4, 1}}, []int{4, 4, 5, 4, 0, 1}, xyNodes, []Node{{And, 2, 3}, {Not, 4, 0}}},
		{"second example", nil, []Op{{Var, -1, 0}, {Not, 9, 0}, {7, 0, 0}}, []int{-1, -1, -1}, ground, nil},
		{"Or of 0 and 0", nil, []Op{{Or, 0, 0}}, []int{0}, ground, nil},
		{"constants", nil, []Op{{False, 0, 0}, {True, 0, 0}, {Kind: False, A: 9, B: -9}, {Kind: True, A: -9, B: 9}}, []int{0, 1, 0, 1}, ground, nil},
		{"variables", nil, []Op{{Var, 0, 0}, {Var, 0, 5}, {Var, math.MaxInt, -1}, {Var, 1, 0}, {Var, math.MaxInt, 0}}, []int{2, 2, 3, 4, 3}, ground, []Node{{Var, 0, 0}, {Var, math.MaxInt, 0}, {Var, 1, 0}}},
		{"variables below 0", nil, []Op{{Var, -1, 0}, {Var, math.MinInt, 0}, {Var, -1, 1}}, []int{-1, -1, -1}, ground, nil},
		{"kinds that are none", xy, []Op{{0, 2, 3}, {7, 2, 3}, {-1, 2, 3}, {math.MinInt, 2, 3}, {math.MaxInt, 0, 0}}, []int{-1, -1, -1, -1, -1}, xyNodes, nil},
		{"Not", xy, []Op{{Not, 0, 0}, {Not, 1, 0}, {Not, 2, 99}, {Not, 4, -1}, {Not, 2, 0}, {Not, 3, 0}}, []int{1, 0, 4, 2, 4, 5}, xyNodes, []Node{{Not, 2, 0}, {Not, 3, 0}}},
		{"Not of none", xy, []Op{{Not, -1, 0}, {Not, 4, 0}, {Not, math.MaxInt, 0}, {Not, math.MinInt, 0}}, []int{-1, -1, -1, -1}, xyNodes, nil},
		{"And with constants", xy, []Op{{And, 0, 2}, {And, 2, 0}, {And, 1, 2}, {And, 2, 1}, {And, 0, 0}, {And, 0, 1}, {And, 1, 0}, {And, 1, 1}}, []int{0, 0, 2, 2, 0, 0, 0, 1}, xyNodes, nil},
		{"Or with constants", xy, []Op{{Or, 0, 2}, {Or, 2, 0}, {Or, 1, 2}, {Or, 2, 1}, {Or, 0, 0}, {Or, 0, 1}, {Or, 1, 0}, {Or, 1, 1}}, []int{2, 2, 1, 1, 0, 1, 1, 1}, xyNodes, nil},
		{"of one twice", xy, []Op{{And, 2, 2}, {Or, 2, 2}, {And, 3, 3}, {Or, 3, 3}}, []int{2, 2, 3, 3}, xyNodes, nil},
		{"of a node and its Not", xy, []Op{{Not, 2, 0}, {And, 2, 4}, {And, 4, 2}, {Or, 2, 4}, {Or, 4, 2}, {And, 3, 4}, {Or, 4, 3}}, []int{4, 0, 0, 1, 1, 5, 6}, xyNodes, []Node{{Not, 2, 0}, {And, 3, 4}, {Or, 3, 4}}},
		{"A above B", xy, []Op{{Or, 3, 2}, {Or, 2, 3}, {And, 3, 2}, {And, 2, 3}, {And, 4, 2}, {Or, 5, 3}}, []int{4, 4, 5, 5, 6, 7}, xyNodes, []Node{{Or, 2, 3}, {And, 2, 3}, {And, 2, 4}, {Or, 3, 5}}},
		{"pairs of none", xy, []Op{{And, 4, 2}, {And, 2, 4}, {Or, 4, 2}, {Or, 2, 4}, {And, -1, 0}, {And, 0, -1}, {Or, -1, 1}, {Or, 1, -1}, {And, 0, 4}, {And, 4, 0}, {Or, 1, 4}, {Or, 4, 1}, {And, 4, 4}, {Or, -1, -1}},
			[]int{-1, -1, -1, -1, -1, -1, -1, -1, -1, -1, -1, -1, -1, -1}, xyNodes, nil},
		{"at int's ends", xy, []Op{{And, math.MinInt, 0}, {Or, 1, math.MaxInt}, {And, math.MaxInt, math.MinInt}}, []int{-1, -1, -1}, xyNodes, nil},
		{"a variable isn't its node", nil, []Op{{Var, 3, 0}, {Var, 2, 0}, {Not, 2, 0}, {And, 2, 3}}, []int{2, 3, 4, 5}, ground, []Node{{Var, 3, 0}, {Var, 2, 0}, {Not, 2, 0}, {And, 2, 3}}},
		{"a variable of a node's number isn't its Not", nil, []Op{{Var, 3, 0}, {Var, 2, 0}, {And, 3, 2}, {Or, 2, 3}}, []int{2, 3, 4, 5}, ground, []Node{{Var, 3, 0}, {Var, 2, 0}, {And, 2, 3}, {Or, 2, 3}}},
		{"Not of a pair", xy, []Op{{And, 2, 3}, {Not, 4, 0}, {Or, 5, 4}, {And, 4, 5}, {Not, 5, 0}, {Or, 5, 2}}, []int{4, 5, 1, 0, 4, 6}, xyNodes, []Node{{And, 2, 3}, {Not, 4, 0}, {Or, 2, 5}}},
	}
	for _, c := range cases {
		got, nodes := Play(slices.Concat(c.first, c.ops))
		if n := len(c.first); !slices.Equal(got[n:], c.answers) || !slices.Equal(nodes, slices.Concat(c.before, c.added)) {
			t.Errorf("%s: %v, %v", c.name, got, nodes)
		}
	}
}

// TestPlayOfMany: rows of operations, answered as the plain model does.
func TestPlayOfMany(t *testing.T) {
	added, refused := 0, 0
	for seed := range 300 {
		row := ops(seed, 20+seed%80, 1+seed%6)
		m := start()
		var want []int
		for _, op := range row {
			want = append(want, m.do(op))
		}
		got, nodes := Play(row)
		if !slices.Equal(got, want) || !slices.Equal(nodes, m.nodes) {
			t.Errorf("Play(%v) = %v, %v", row, got, nodes)
		}
		added += len(nodes) - 2
		for _, i := range got {
			if i < 0 {
				refused++
			}
		}
	}
	if added < 3000 || refused < 1000 {
		t.Errorf("the rows are too much alike: %d nodes, %d refused", added, refused)
	}
}

// TestEveryOp: on small tables every operation, with operands from below 0 to beyond the last node.
func TestEveryOp(t *testing.T) {
	for seed := range 40 {
		row := ops(seed, 16, 3)
		table, _ := fill(row)
		last := table.Len() + 1
		for kind := -1; kind <= 8; kind++ {
			for a := -2; a <= last; a++ {
				for b := -2; b <= last; b++ {
					checkOp(t, row, Op{kind, a, b})
				}
			}
		}
	}
}

// checkOp: is an operation answered as the model answers it, behind a row of others?
func checkOp(t *testing.T, row []Op, op Op) {
	t.Helper()
	table, m := fill(row)
	want := m.do(op)
	got, ok := table.Do(op)
	if ok != (want >= 0) || ok && got != want || !ok && got != 0 || table.Len() != len(m.nodes) {
		t.Errorf("behind %v: Do(%v) = %d, %v; %d nodes", row, op, got, ok, table.Len())
	}
}

// fill: a table with what a row of operations asks for, and the model beside it.
func fill(row []Op) (*Table, *model) {
	table, m := New(), start()
	for _, op := range row {
		table.Do(op)
		m.do(op)
	}
	return table, m
}

func TestLenAndNode(t *testing.T) {
	for seed := range 50 {
		table, m := fill(ops(seed, 60, 4))
		if table.Len() != len(m.nodes) {
			t.Errorf("%d nodes, not %d", table.Len(), len(m.nodes))
		}
		for i, want := range m.nodes {
			if got, ok := table.Node(i); got != want || !ok {
				t.Errorf("Node(%d) = %v, %v", i, got, ok)
			}
		}
		for _, i := range []int{-1, -2, table.Len(), table.Len() + 1, math.MinInt, math.MaxInt} {
			if got, ok := table.Node(i); got != (Node{}) || ok {
				t.Errorf("Node(%d) = %v, %v", i, got, ok)
			}
		}
	}
}

// TestNodesStandOnce: no node stands twice, what a node stands on has lesser numbers, and what its kind doesn't use is 0.
func TestNodesStandOnce(t *testing.T) {
	for seed := range 200 {
		answers, nodes := Play(ops(seed, 150, 5))
		seen := map[Node]int{}
		for i, n := range nodes {
			if first, there := seen[n]; there {
				t.Errorf("%v is node %d and node %d", n, first, i)
			}
			seen[n] = i
			if !wellMade(n, i) {
				t.Errorf("node %d is %v", i, n)
			}
		}
		for _, i := range answers {
			if i < -1 || i >= len(nodes) {
				t.Errorf("an answer is %d, of %d nodes", i, len(nodes))
			}
		}
	}
}

// wellMade: may that node stand at that number?
func wellMade(n Node, number int) bool {
	switch n.Kind {
	case False, True:
		return n == Node{Kind: number + 1}
	case Var:
		return n.A >= 0 && n.B == 0
	case Not:
		return n.A > 1 && n.A < number && n.B == 0
	case And, Or:
		return n.A > 1 && n.A < n.B && n.B < number
	}
	return false
}

// choices: every list of so many truths.
func choices(n int) [][]bool {
	var out [][]bool
	for bits := range 1 << n {
		vals := make([]bool, n)
		for i := range vals {
			vals[i] = bits>>i&1 == 1
		}
		out = append(out, vals)
	}
	return out
}

// TestEval: each node at every choice of truths, and at lists that are shorter than its variables ask for.
func TestEval(t *testing.T) {
	for seed := range 30 {
		table, m := fill(ops(seed, 60, 4))
		for n := range 6 {
			for _, vals := range choices(n) {
				for i := range m.nodes {
					want := m.eval(i, func(v int) bool { return v < len(vals) && vals[v] })
					if got, ok := table.Eval(i, vals); got != want || !ok {
						t.Fatalf("Eval(%d, %v) = %v, %v", i, vals, got, ok)
					}
				}
			}
		}
		for _, i := range []int{-1, table.Len(), table.Len() + 1, math.MinInt, math.MaxInt} {
			if got, ok := table.Eval(i, []bool{true, true}); got || ok {
				t.Errorf("Eval(%d) = %v, %v", i, got, ok)
			}
		}
	}
}

// TestEvalOfWhatDoAnswers: it is what the operation means of its operands.
func TestEvalOfWhatDoAnswers(t *testing.T) {
	for seed := range 60 {
		table := New()
		for _, op := range ops(seed, 80, 4) {
			i, ok := table.Do(op)
			if !ok {
				continue
			}
			for _, vals := range choices(4) {
				a, _ := table.Eval(op.A, vals)
				b, _ := table.Eval(op.B, vals)
				meaning := map[int]bool{False: false, True: true, Not: !a, And: a && b, Or: a || b}
				want := meaning[op.Kind]
				if op.Kind == Var {
					want = op.A < 4 && vals[op.A]
				}
				if got, there := table.Eval(i, vals); got != want || !there {
					t.Fatalf("%v is node %d: at %v it is %v, %v", op, i, vals, got, there)
				}
			}
		}
	}
}

func TestEvalOfFarVariables(t *testing.T) {
	table, _ := fill([]Op{{Var, math.MaxInt, 0}, {Var, 1, 0}, {Not, 2, 0}})
	for _, vals := range [][]bool{nil, {}, {true}, {true, true}} {
		far, _ := table.Eval(2, vals)
		near, _ := table.Eval(3, vals)
		opposite, _ := table.Eval(4, vals)
		if far || !opposite || near != (len(vals) == 2) {
			t.Errorf("at %v: %v, %v, %v", vals, far, near, opposite)
		}
	}
}

func TestReach(t *testing.T) {
	// Nodes: 2 x, 3 y, 4 x and y, 5 not x, 6 not x or (x and y), 7 z, 8 not 6, 9 z or x
	table, _ := fill([]Op{{Var, 3, 0}, {Var, 4, 0}, {And, 2, 3}, {Not, 2, 0}, {Or, 5, 4}, {Var, 0, 0}, {Not, 6, 0}, {Or, 7, 2}})
	want := [][]int{{0}, {1}, {2}, {3}, {2, 3, 4}, {2, 5}, {2, 3, 4, 5, 6}, {7}, {2, 3, 4, 5, 6, 8}, {2, 7, 9}}
	if table.Len() != len(want) {
		t.Fatalf("%d nodes", table.Len())
	}
	for i, w := range want {
		if got := table.Reach(i); !slices.Equal(got, w) {
			t.Errorf("Reach(%d) = %v", i, got)
		}
	}
	for _, i := range []int{-1, 10, 11, math.MinInt, math.MaxInt} {
		if got := table.Reach(i); len(got) != 0 {
			t.Errorf("Reach(%d) = %v", i, got)
		}
	}
	for seed := range 60 {
		table, m := fill(ops(seed, 60, 4))
		for i := range m.nodes {
			set := map[int]bool{}
			m.reach(i, set)
			var w []int
			for k := range m.nodes {
				if set[k] {
					w = append(w, k)
				}
			}
			if got := table.Reach(i); !slices.Equal(got, w) {
				t.Errorf("Reach(%d) = %v, not %v", i, got, w)
			}
		}
	}
}

// TestSharedParts: a node whose parts are gone through more ways than can be counted is worked out at once.
func TestSharedParts(t *testing.T) {
	table, _ := fill([]Op{{Var, 0, 0}, {Var, 1, 0}})
	a, b := 2, 3
	for range 2000 {
		both, _ := table.Do(Op{And, a, b})
		one, ok := table.Do(Op{Or, a, b})
		if !ok {
			t.Fatal("no room")
		}
		a, b = both, one
	}
	for _, vals := range choices(2) {
		both, _ := table.Eval(a, vals)
		one, _ := table.Eval(b, vals)
		if both != (vals[0] && vals[1]) || one != (vals[0] || vals[1]) {
			t.Errorf("at %v: %v, %v", vals, both, one)
		}
	}
	if got := table.Reach(b); len(got) != table.Len()-3 || got[0] != 2 || slices.Contains(got, a) {
		t.Errorf("Reach has %d of %d nodes", len(got), table.Len())
	}
}

// full: a table of MaxNodes nodes: variable 0, its Not, the Or of both with other variables, then variables alone.
func full(t *testing.T) *Table {
	table, _ := fill([]Op{{Var, 0, 0}, {Not, 2, 0}, {Var, 1, 0}, {And, 2, 4}, {Or, 3, 4}})
	for v := 2; table.Len() < 20000; v++ {
		if i, ok := table.Do(Op{Var, v, 0}); !ok || i != table.Len()-1 {
			t.Fatalf("Do(Var %d) = %d, %v", v, i, ok)
		}
	}
	return table
}

func TestMaxNodes(t *testing.T) {
	if api.MaxNodes != 20000 {
		t.Fatal("another limit")
	}
	table := full(t)
	last, _ := table.Node(19999)
	if last.Kind != Var || last.A != 19994 {
		t.Errorf("the last node is %v", last)
	}
	for _, op := range []Op{{Var, 19995, 0}, {Var, math.MaxInt, 0}, {Not, 4, 0}, {And, 2, 7}, {Or, 2, 4}, {And, 3, 19999}, {Not, 19999, 0}} {
		if i, ok := table.Do(op); i != 0 || ok {
			t.Errorf("Do(%v) = %d, %v", op, i, ok)
		}
	}
	found := []struct {
		op   Op
		want int
	}{
		{Op{False, 0, 0}, 0}, {Op{True, 0, 0}, 1}, {Op{Var, 0, 0}, 2}, {Op{Var, 19994, 0}, 19999}, {Op{Not, 2, 0}, 3}, {Op{Not, 3, 0}, 2},
		{Op{Not, 0, 0}, 1}, {Op{And, 4, 2}, 5}, {Op{Or, 4, 3}, 6}, {Op{And, 19999, 0}, 0}, {Op{And, 19999, 1}, 19999}, {Op{Or, 0, 19999}, 19999},
		{Op{And, 19999, 19999}, 19999}, {Op{Or, 2, 3}, 1}, {Op{And, 3, 2}, 0},
	}
	for _, f := range found {
		if i, ok := table.Do(f.op); i != f.want || !ok {
			t.Errorf("Do(%v) = %d, %v", f.op, i, ok)
		}
	}
	if n, ok := table.Node(20000); table.Len() != 20000 || n != (Node{}) || ok {
		t.Errorf("%d nodes; Node(20000) = %v, %v", table.Len(), n, ok)
	}
	if got := table.Reach(20000); len(got) != 0 {
		t.Errorf("Reach(20000) = %v", got)
	}
	if truth, ok := table.Eval(19999, append(make([]bool, 19994), true)); !truth || !ok {
		t.Errorf("Eval(19999) = %v, %v", truth, ok)
	}
}

// TestPlayOfMaxNodes: a row that asks for more nodes than there may be: those beyond are refused, the others found again.
func TestPlayOfMaxNodes(t *testing.T) {
	var row []Op
	for v := range 20005 {
		row = append(row, Op{Var, v, 0})
	}
	row = append(row, Op{Var, 7, 0}, Op{And, 3, 3}, Op{Not, 2, 0}, Op{Or, 0, 5})
	got, nodes := Play(row)
	for v := range 20005 {
		want := v + 2
		if want >= 20000 {
			want = -1
		}
		if got[v] != want {
			t.Fatalf("variable %d is node %d", v, got[v])
		}
	}
	if !slices.Equal(got[20005:], []int{9, 3, -1, 5}) || len(nodes) != 20000 || nodes[19999] != (Node{Var, 19997, 0}) {
		t.Errorf("then %v, and %d nodes", got[20005:], len(nodes))
	}
}

// TestLongChain: a node that stands on all others, one below the other.
func TestLongChain(t *testing.T) {
	table, _ := fill([]Op{{Var, 0, 0}, {Var, 1, 0}})
	top, truth := 2, true
	for table.Len() < 20000 {
		kind := And
		if table.Len()%4 == 0 {
			kind = Or
		}
		next, _ := table.Do(Op{kind, 3, top})
		top, _ = table.Do(Op{Not, next, 0})
		// Variable 1 is true: so an Or is, and an And is what the other part is.
		truth = kind == And && !truth
	}
	if got := table.Reach(top); top != 19999 || len(got) != 19998 || got[0] != 2 || got[19997] != 19999 {
		t.Errorf("Reach(%d) has %d nodes", top, len(got))
	}
	if got, ok := table.Eval(top, []bool{true, true}); got != truth || !ok {
		t.Errorf("Eval(%d) = %v, %v", top, got, ok)
	}
}

func TestNilTable(t *testing.T) {
	var none *Table
	if none.Len() != 0 {
		t.Errorf("%d nodes", none.Len())
	}
	for _, i := range []int{-1, 0, 1, 2, math.MaxInt} {
		n, there := none.Node(i)
		truth, ok := none.Eval(i, []bool{true})
		if n != (Node{}) || there || truth || ok || len(none.Reach(i)) != 0 {
			t.Errorf("node %d: %v, %v, %v, %v, %v", i, n, there, truth, ok, none.Reach(i))
		}
	}
	for kind := -1; kind <= 8; kind++ {
		for _, op := range []Op{{kind, 0, 0}, {kind, 1, 1}, {kind, 0, 1}, {kind, 5, 5}} {
			if i, ok := none.Do(op); i != 0 || ok {
				t.Errorf("Do(%v) = %d, %v", op, i, ok)
			}
		}
	}
}

// TestZeroTable: a Table{} answers each call as a new one does, from the first call on.
func TestZeroTable(t *testing.T) {
	tables := func() []*Table { return []*Table{{}, New(), new(Table)} }
	for _, table := range tables() {
		if table.Len() != 2 {
			t.Errorf("%d nodes", table.Len())
		}
	}
	for _, table := range tables() {
		f, there := table.Node(0)
		tr, too := table.Node(1)
		_, more := table.Node(2)
		if f != (Node{Kind: False}) || tr != (Node{Kind: True}) || !there || !too || more {
			t.Errorf("nodes %v, %v", f, tr)
		}
	}
	for _, table := range tables() {
		f, there := table.Eval(0, nil)
		tr, too := table.Eval(1, nil)
		_, more := table.Eval(2, nil)
		if f || !tr || !there || !too || more {
			t.Errorf("truths %v, %v, %v", f, tr, more)
		}
	}
	for _, table := range tables() {
		if !slices.Equal(table.Reach(0), []int{0}) || !slices.Equal(table.Reach(1), []int{1}) || len(table.Reach(2)) != 0 {
			t.Errorf("Reach: %v, %v, %v", table.Reach(0), table.Reach(1), table.Reach(2))
		}
	}
	row := ops(5, 100, 4)
	want, nodes := Play(row)
	for _, table := range tables() {
		for i, op := range row {
			got, ok := table.Do(op)
			if ok != (want[i] >= 0) || ok && got != want[i] {
				t.Errorf("Do(%v) = %d, %v", op, got, ok)
			}
		}
		if table.Len() != len(nodes) {
			t.Errorf("%d nodes, not %d", table.Len(), len(nodes))
		}
	}
}

// TestTablesAreApart: what is done to one table is nothing to another one.
func TestTablesAreApart(t *testing.T) {
	var zero Table
	a, b := New(), New()
	a.Do(Op{Var, 5, 0})
	b.Do(Op{Var, 6, 0})
	b.Do(Op{Var, 5, 0})
	if a.Len() != 3 || b.Len() != 4 || zero.Len() != 2 || New().Len() != 2 {
		t.Errorf("%d, %d, %d, %d nodes", a.Len(), b.Len(), zero.Len(), New().Len())
	}
	if i, _ := b.Do(Op{Var, 5, 0}); i != 3 {
		t.Errorf("variable 5 is node %d", i)
	}
	Play([]Op{{Var, 1, 0}, {Var, 2, 0}})
	if n, _ := a.Node(2); n != (Node{Var, 5, 0}) || a.Len() != 3 {
		t.Errorf("node 2 is %v", n)
	}
}

// TestAskingChangesNothing: of the calls on a table Do alone changes it, and a Do that is refused doesn't.
func TestAskingChangesNothing(t *testing.T) {
	table, m := fill(ops(9, 60, 4))
	for _, i := range []int{-1, 0, 1, 5, table.Len() - 1, table.Len(), math.MaxInt} {
		table.Node(i)
		table.Eval(i, []bool{true, false, true})
		table.Reach(i)
		table.Len()
	}
	for _, op := range []Op{{0, 1, 1}, {7, 1, 1}, {Var, -1, 0}, {Not, -1, 0}, {Not, table.Len(), 0}, {And, 2, table.Len()}, {Or, -1, 2}} {
		if i, ok := table.Do(op); i != 0 || ok {
			t.Errorf("Do(%v) = %d, %v", op, i, ok)
		}
	}
	for i, want := range m.nodes {
		if got, _ := table.Node(i); got != want || table.Len() != len(m.nodes) {
			t.Errorf("node %d of %d is %v", i, table.Len(), got)
		}
	}
}

// scribble: writes into all of a list's memory.
func scribble[E any](list []E, fill E) {
	list = list[:cap(list)]
	for i := range list {
		list[i] = fill
	}
}

// TestMemory: what is handed in stays, with the room behind it; what is answered is new each time.
func TestMemory(t *testing.T) {
	row := ops(3, 60, 4)
	room := slices.Clip(slices.Concat(row, slices.Repeat([]Op{{55, 55, 55}}, 9)))
	before := slices.Clone(room)
	want, nodes := Play(room[:60])
	got, others := Play(room[:60])
	scribble(got, 77)
	scribble(others, Node{77, 77, 77})
	again, more := Play(room[:60])
	if !slices.Equal(again, want) || !slices.Equal(more, nodes) || !slices.Equal(room, before) {
		t.Error("Play's lists are shared")
	}
	table, m := fill(row)
	vals := []bool{true, false, true, true, true, true}
	for i := range m.nodes {
		table.Eval(i, vals[:4])
		first, second := table.Reach(i), table.Reach(i)
		copied := slices.Clone(first)
		scribble(second, 77)
		if !slices.Equal(first, copied) || !slices.Equal(table.Reach(i), copied) {
			t.Errorf("the lists of Reach(%d) are shared", i)
		}
	}
	if !slices.Equal(vals, []bool{true, false, true, true, true, true}) {
		t.Errorf("the truths are now %v", vals)
	}
	for i, n := range m.nodes {
		if got, _ := table.Node(i); got != n {
			t.Errorf("node %d is now %v", i, got)
		}
	}
}
