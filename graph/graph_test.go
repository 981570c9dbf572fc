package graph_test

import (
	"math"
	"reflect"
	"slices"
	"testing"

	"jacquard/api"
	"jacquard/graph"
)

// brute is a graph as a table of edges; all is reckoned on it by the words of the document, without any of the program's ways.
type brute struct {
	n    int
	edge [][]bool
	dom  [][]bool // dom[a][b]: a dominates b
	from []bool   // which are reached
}

// ways is which blocks one comes to from a (a, too), without the block but.
func (x brute) ways(a, but int) []bool {
	seen := make([]bool, x.n)
	if a == but || a >= x.n {
		return seen
	}
	seen[a] = true
	for todo := []int{a}; len(todo) > 0; todo = todo[1:] {
		for b := range x.n {
			if x.edge[todo[0]][b] && b != but && !seen[b] {
				seen[b] = true
				todo = append(todo, b)
			}
		}
	}
	return seen
}

// newBrute is that of rows.
func newBrute(g [][]int) brute {
	x := brute{n: len(g)}
	for _, row := range g {
		to := make([]bool, x.n)
		for _, b := range row {
			if b >= 0 && b < x.n {
				to[b] = true
			}
		}
		x.edge = append(x.edge, to)
	}
	x.from = x.ways(0, -1)
	for a := range g {
		without := x.ways(0, a)
		dom := make([]bool, x.n)
		for b := range g {
			dom[b] = x.from[a] && x.from[b] && !without[b]
		}
		x.dom = append(x.dom, dom)
	}
	return x
}

// row is the blocks of which something is so, rising.
func (x brute) row(is func(b int) bool) []int {
	var l []int
	for b := range x.n {
		if is(b) {
			l = append(l, b)
		}
	}
	return l
}

// order is the reverse postorder, by a stack of its own.
func (x brute) order() []int {
	if x.n == 0 {
		return nil
	}
	seen := make([]bool, x.n)
	seen[0] = true
	stack, next := []int{0}, make([]int, x.n)
	var left []int
	for len(stack) > 0 {
		a := stack[len(stack)-1]
		b := next[a]
		if b == x.n {
			left = append([]int{a}, left...)
			stack = stack[:len(stack)-1]
			continue
		}
		next[a]++
		if x.edge[a][b] && !seen[b] {
			seen[b] = true
			stack = append(stack, b)
		}
	}
	return left
}

// idom is the immediate dominator of b.
func (x brute) idom(b int) int {
	for a := range x.n {
		ok := a != b && x.dom[a][b]
		for c := range x.n {
			ok = ok && (c == b || !x.dom[c][b] || x.dom[c][a])
		}
		if ok {
			return a
		}
	}
	return -1
}

// back tells whether an edge goes back.
func (x brute) back(a, b int) bool {
	return x.edge[a][b] && x.dom[b][a]
}

// headers are the blocks to which one goes back.
func (x brute) headers() []int {
	return x.row(func(h int) bool {
		return len(x.row(func(a int) bool { return x.back(a, h) })) > 0
	})
}

// body is the loop of h.
func (x brute) body(h int) []int {
	if h < 0 || h >= x.n || !slices.Contains(x.headers(), h) {
		return nil
	}
	return x.row(func(a int) bool {
		if a == h {
			return true
		}
		ways := x.ways(a, h)
		return x.from[a] && len(x.row(func(b int) bool { return ways[b] && x.back(b, h) })) > 0
	})
}

// reducible: what is reached can be taken away, one after the other, each when no edge but those that go back leads to it.
func (x brute) reducible() bool {
	left := x.row(func(b int) bool { return x.from[b] })
	for len(left) > 0 {
		free := slices.IndexFunc(left, func(b int) bool {
			return !slices.ContainsFunc(left, func(a int) bool { return x.edge[a][b] && !x.back(a, b) })
		})
		if free < 0 {
			return false
		}
		left = slices.Delete(left, free, free+1)
	}
	return true
}

// critical are the critical edges.
func (x brute) critical() [][2]int {
	var l [][2]int
	for a := range x.n {
		for b := range x.n {
			several := len(x.row(func(c int) bool { return x.edge[a][c] })) > 1 && len(x.row(func(c int) bool { return x.edge[c][b] })) > 1
			if x.edge[a][b] && several {
				l = append(l, [2]int{a, b})
			}
		}
	}
	return l
}

// same holds two rows against each other; without items both nil and empty will do.
func same[T comparable](a, b []T) bool {
	return slices.Equal(a, b)
}

// hold holds all that the program tells of a graph against the words of the document.
func hold(t *testing.T, g [][]int) {
	t.Helper()
	x := newBrute(g)
	preds, idom := graph.Preds(g), graph.Idom(g)
	if len(preds) != len(g) || len(idom) != len(g) {
		t.Fatalf("%v: %d rows of Preds, %d of Idom", g, len(preds), len(idom))
	}
	for b := range g {
		if want := x.row(func(a int) bool { return x.edge[a][b] }); !same(preds[b], want) {
			t.Fatalf("%v: Preds of %d: %v, not %v", g, b, preds[b], want)
		}
		if want := x.idom(b); idom[b] != want {
			t.Fatalf("%v: Idom of %d: %d, not %d", g, b, idom[b], want)
		}
		for a := range g {
			if got, want := graph.Dominates(idom, a, b), x.dom[a][b] || a == b; got != want {
				t.Fatalf("%v: Dominates %d %d: %v", g, a, b, got)
			}
		}
	}
	if got, want := graph.Order(g), x.order(); !same(got, want) {
		t.Fatalf("%v: Order: %v, not %v", g, got, want)
	}
	if got, want := graph.Headers(g), x.headers(); !same(got, want) {
		t.Fatalf("%v: Headers: %v, not %v", g, got, want)
	}
	for h := -1; h <= len(g); h++ {
		if got, want := graph.Body(g, h), x.body(h); !same(got, want) {
			t.Fatalf("%v: Body of %d: %v, not %v", g, h, got, want)
		}
	}
	if got, want := graph.Reducible(g), x.reducible(); got != want {
		t.Fatalf("%v: Reducible: %v", g, got)
	}
	if got, want := graph.Critical(g), x.critical(); !same(got, want) {
		t.Fatalf("%v: Critical: %v, not %v", g, got, want)
	}
}

// numbers tell numbers that are all over the place, the same each time.
func numbers(seed uint32) func(below int) int {
	return func(below int) int {
		seed = seed*1664525 + 1013904223
		return int(seed>>8) % below
	}
}

// messy is a graph of n blocks with about so many edges a block; rows are in no order, with repeats, and with what is no block.
func messy(n, edges int, next func(int) int) [][]int {
	odd := []int{-1, n, n + 1, math.MinInt, math.MaxInt, 1 << 32}
	g := make([][]int, n)
	for range n * edges {
		a := next(n)
		g[a] = append(g[a], next(n))
		if next(4) == 0 {
			g[a] = append(g[a], odd[next(len(odd))], g[a][0])
		}
	}
	return g
}

// samples are graphs of all kinds.
func samples() [][][]int {
	l := [][][]int{nil, {}, {nil}, {{0}}, {nil, nil}, {{-1, 1, 2}, {math.MaxInt, math.MinInt}}}
	next := numbers(7)
	for i := range 600 {
		l = append(l, messy(1+next(12), 1+i%3, next))
	}
	for range 20 {
		l = append(l, messy(20+next(20), 2, next))
	}
	return l
}

// TestSmall: all graphs of up to three blocks, and those of four in which no block goes to itself (P2.1 to P2.5).
func TestSmall(t *testing.T) {
	for n := range 4 {
		for bits := range 1 << (n * n) {
			g := make([][]int, n)
			for i := range n * n {
				if bits>>i&1 == 1 {
					g[i/n] = append(g[i/n], i%n)
				}
			}
			hold(t, g)
		}
	}
	for bits := range 1 << 12 {
		g := make([][]int, 4)
		for i := range 12 {
			if bits>>i&1 == 1 {
				g[i/3] = append(g[i/3], (i/3+1+i%3)%4)
			}
		}
		hold(t, g)
	}
}

// TestMessy: graphs with repeats, in no order, with what is no block (P2.1 to P2.5).
func TestMessy(t *testing.T) {
	for _, g := range samples() {
		hold(t, g)
	}
}

// TestOf: a function's graph, of whatever terms, right or not (P2.1).
func TestOf(t *testing.T) {
	if g := graph.Of(api.Func{}); len(g) != 0 {
		t.Error("no blocks:", g)
	}
	terms := []api.Term{
		{Kind: api.Jump, To: []int{3}},
		{Kind: api.Branch, Args: []int{0}, To: []int{4, 2}},
		{Kind: api.Branch, Args: []int{0}, To: []int{2, 2}},
		{Kind: api.Switch, Args: []int{0}, To: []int{4, 0, 4, -1, 5, 1, 0, math.MaxInt, math.MinInt}},
		{Kind: api.Ret},
	}
	f := api.Func{Params: 1}
	for _, term := range terms {
		f.Blocks = append(f.Blocks, api.Block{Term: term})
	}
	want := [][]int{{3}, {2, 4}, {2}, {0, 1, 4}, nil}
	got := graph.Of(f)
	if len(got) != len(want) {
		t.Fatal(got)
	}
	for b := range want {
		if !same(got[b], want[b]) {
			t.Errorf("block %d: %v, not %v", b, got[b], want[b])
		}
	}
	// What kind a term is plays no part.
	odd := api.Func{Params: -5, Blocks: []api.Block{{Term: api.Term{Kind: api.Trap, To: []int{1, 0, 1}}}, {Term: api.Term{Kind: 99, To: []int{1}}}}}
	if g := graph.Of(odd); len(g) != 2 || !same(g[0], []int{0, 1}) || !same(g[1], []int{1}) {
		t.Error("odd kinds:", g)
	}
}

// TestExamples: graphs with answers that are written out (P2.1 to P2.5).
func TestExamples(t *testing.T) {
	for i, x := range []struct {
		g                    [][]int
		order, idom, headers []int
		reducible            bool
		critical             [][2]int
	}{
		{[][]int{{1, 2}, {3}, {3}, {1}}, []int{0, 2, 1, 3}, []int{-1, 0, 0, 0}, nil, false, [][2]int{{0, 1}}},
		{[][]int{{1}, {2, 3}, {1}, nil}, []int{0, 1, 3, 2}, []int{-1, 0, 1, 1}, []int{1}, true, nil},
		{[][]int{{1, 2}, {2}, nil}, []int{0, 1, 2}, []int{-1, 0, 0}, nil, true, [][2]int{{0, 2}}},
		{nil, nil, nil, nil, true, nil},
		{[][]int{nil}, []int{0}, []int{-1}, nil, true, nil},
		{[][]int{{0}}, []int{0}, []int{-1}, []int{0}, true, nil},
		{[][]int{{0, 1}, {0}}, []int{0, 1}, []int{-1, 0}, []int{0}, true, [][2]int{{0, 0}}},
		// An order goes on by rising numbers, in whatever order they stand, and a repeat is no second edge.
		{[][]int{{2, 1, 2}, {3, 3}, {3}, nil}, []int{0, 2, 1, 3}, []int{-1, 0, 0, 0}, nil, true, nil},
		// What is not reached has edges all the same: but no dominator, and no loop.
		{[][]int{{1}, nil, {1, 3}, {2, 3}}, []int{0, 1}, []int{-1, 0, -1, -1}, nil, true, [][2]int{{2, 1}, {2, 3}, {3, 3}}},
		// Two circles that one comes into at one place, one inside the other.
		{[][]int{{1}, {2}, {2, 3}, {1, 4}, nil}, []int{0, 1, 2, 3, 4}, []int{-1, 0, 1, 2, 3}, []int{1, 2}, true, [][2]int{{2, 2}, {3, 1}}},
		// A circle that one comes into at two places, with an edge back inside it.
		{[][]int{{1, 2}, {2}, {1, 3}, {3, 2}}, []int{0, 1, 2, 3}, []int{-1, 0, 0, 2}, []int{2, 3}, false, [][2]int{{0, 1}, {0, 2}, {2, 1}, {2, 3}, {3, 2}, {3, 3}}},
	} {
		if got := graph.Order(x.g); !same(got, x.order) {
			t.Errorf("%d: Order %v", i, got)
		}
		if got := graph.Idom(x.g); !same(got, x.idom) {
			t.Errorf("%d: Idom %v", i, got)
		}
		if got := graph.Headers(x.g); !same(got, x.headers) {
			t.Errorf("%d: Headers %v", i, got)
		}
		if got := graph.Reducible(x.g); got != x.reducible {
			t.Errorf("%d: Reducible %v", i, got)
		}
		if got := graph.Critical(x.g); !same(got, x.critical) {
			t.Errorf("%d: Critical %v", i, got)
		}
	}
}

// TestBody: loops that are written out, and numbers that are no header (P2.4).
func TestBody(t *testing.T) {
	nested := [][]int{{1}, {2, 6}, {3}, {3, 4}, {2, 5}, {1, 6}, nil, {2, 5}}
	for i, x := range []struct {
		g    [][]int
		h    int
		body []int
	}{
		{[][]int{{1}, {2, 3}, {1}, nil}, 1, []int{1, 2}},
		{[][]int{{1, 2}, {3}, {3}, {1}}, 1, nil},
		{nested, 1, []int{1, 2, 3, 4, 5}},
		{nested, 2, []int{2, 3, 4}},
		{nested, 3, []int{3}},
		{nested, 0, nil},
		{nested, 7, nil},
		{nested, -1, nil},
		{nested, 8, nil},
		{nested, math.MinInt, nil},
		{nested, math.MaxInt, nil},
		{nil, 0, nil},
		// What goes to a loop's block without being reached is none of it.
		{[][]int{{1}, {0}, {1}}, 0, []int{0, 1}},
		// An edge to a header that it does not dominate plays no part.
		{[][]int{{1, 2}, {2, 1}, {1, 2}}, 1, []int{1}},
	} {
		if got := graph.Body(x.g, x.h); !same(got, x.body) {
			t.Errorf("%d: %v, not %v", i, got, x.body)
		}
	}
}

// TestDominatesAny: rows of any numbers, with circles, and with what is no number of a block (P2.3).
func TestDominatesAny(t *testing.T) {
	for i, x := range []struct {
		idom []int
		a, b int
		want bool
	}{
		{nil, 0, 0, false}, {[]int{-1}, 0, 0, true}, {[]int{-1}, 0, 1, false}, {[]int{-1}, 1, 0, false}, {[]int{-1}, 1, 1, false},
		{[]int{-1, 0}, -1, 0, false}, {[]int{-1, 0}, -1, -1, false}, {[]int{-1, 0}, 2, 1, false}, {[]int{-1, 0}, math.MinInt, math.MaxInt, false},
		{[]int{-1, 0, 1, 2}, 0, 3, true}, {[]int{-1, 0, 1, 2}, 3, 0, false}, {[]int{-1, 0, -1}, 2, 2, true}, {[]int{-1, 0, -1}, 0, 2, false},
		{[]int{0, 0}, 0, 1, true}, {[]int{0, 0}, 1, 0, false}, {[]int{2, 0, 1}, 2, 0, true}, {[]int{2, 0, 1}, 1, 0, true}, {[]int{2, 0, 1, 0}, 3, 0, false}, {[]int{2, 0, 1, 0}, 1, 3, true},
		{[]int{5, 0}, 0, 1, true}, {[]int{5, 0}, 1, 0, false}, {[]int{math.MinInt, math.MaxInt, 1}, 1, 2, true}, {[]int{math.MinInt, math.MaxInt, 1}, 0, 2, false},
	} {
		if got := graph.Dominates(x.idom, x.a, x.b); got != x.want {
			t.Errorf("%d: %v", i, got)
		}
	}
	// The last of as many as there are at most.
	idom := []int{1, 2, 3, 4, 5, 6, 7, 0}
	for a := range idom {
		for b := range idom {
			if !graph.Dominates(idom, a, b) {
				t.Error("in a circle:", a, b)
			}
		}
	}
}

// TestOrderDominates: what stands ahead in an order dominates nothing that stands ahead of it (P2.6).
func TestOrderDominates(t *testing.T) {
	for _, g := range samples() {
		order, idom := graph.Order(g), graph.Idom(g)
		for i, b := range order {
			for _, a := range order[:i] {
				if graph.Dominates(idom, b, a) {
					t.Fatalf("%v: %d dominates %d", g, b, a)
				}
			}
		}
	}
}

// TestBlockOnEdge: a block put on an edge changes nothing of who dominates whom among the others (P2.6).
func TestBlockOnEdge(t *testing.T) {
	for _, g := range samples() {
		idom := graph.Idom(g)
		for a, to := range g {
			for _, b := range to {
				if b < 0 || b >= len(g) {
					continue
				}
				split := make([][]int, len(g)+1)
				for c, row := range g {
					for _, d := range row {
						// What was no block must not become the new one.
						if d >= len(g) {
							d = -1
						}
						split[c] = append(split[c], d)
					}
				}
				for i := range split[a] {
					if split[a][i] == b {
						split[a][i] = len(g)
					}
				}
				split[len(g)] = []int{b}
				now := graph.Idom(split)
				for c := range g {
					for d := range g {
						if graph.Dominates(idom, c, d) != graph.Dominates(now, c, d) {
							t.Fatalf("%v, a block on %d %d: of %d and %d", g, a, b, c, d)
						}
					}
				}
			}
		}
	}
}

// copied is a graph of rows of its own.
func copied(g [][]int) [][]int {
	rows := make([][]int, len(g))
	for i, row := range g {
		rows[i] = slices.Clone(row)
	}
	return rows
}

// answers are all that the program tells of a graph.
func answers(g [][]int) []any {
	f := api.Func{}
	for _, row := range g {
		f.Blocks = append(f.Blocks, api.Block{Term: api.Term{To: row}})
	}
	l := []any{graph.Of(f), graph.Preds(g), graph.Order(g), graph.Idom(g), graph.Headers(g), graph.Reducible(g), graph.Critical(g)}
	for h := range g {
		l = append(l, graph.Body(g, h))
	}
	return l
}

// scribble writes over a row, and over what it has room for.
func scribble(row []int) {
	row = row[:cap(row)]
	for i := range row {
		row[i] = 12345
	}
}

// TestKept: what is handed in stays as it was, and is not kept; answers share nothing; they are the same each time (R1, R3, R4).
func TestKept(t *testing.T) {
	for _, g := range samples() {
		before := copied(g)
		first := answers(g)
		if !reflect.DeepEqual(g, before) && len(g) > 0 {
			t.Fatalf("%v was changed to %v", before, g)
		}
		again := copied(g)
		second := answers(again)
		for _, row := range again {
			scribble(row)
		}
		if !reflect.DeepEqual(first, second) {
			t.Fatalf("%v: %v, and then %v", g, first, second)
		}
		for _, x := range second {
			switch rows := x.(type) {
			case [][]int:
				for i, row := range rows {
					others := copied(rows)
					scribble(row)
					for j := range rows {
						if j != i && !slices.Equal(rows[j], others[j]) {
							t.Fatalf("%v: rows %d and %d share", g, i, j)
						}
					}
				}
			case []int:
				scribble(rows)
			}
		}
		if !reflect.DeepEqual(first, answers(g)) {
			t.Fatalf("%v: something was kept", g)
		}
	}
}

// TestDeep: graphs of many blocks, by shapes that a slow or a shallow walk would not get through.
func TestDeep(t *testing.T) {
	const n = 1 << 16
	shapes := []struct {
		name string
		rows func(b int) []int
		idom func(b int) int
		back int
	}{
		{"chain", func(b int) []int { return []int{b + 1} }, func(b int) int { return b - 1 }, 0},
		{"chain with an edge to the end from each", func(b int) []int { return []int{b + 1, n - 1} }, func(b int) int {
			if b == n-1 {
				return 0
			}
			return b - 1
		}, 0},
		{"chain with an edge back to the first from each", func(b int) []int { return []int{b + 1, 0} }, func(b int) int { return b - 1 }, 1},
		{"chain with an edge back by one from each", func(b int) []int { return []int{b + 1, b - 1} }, func(b int) int { return b - 1 }, n - 2},
		{"two chains that meet in each", func(b int) []int { return []int{b + 1, b + 2} }, func(int) int { return 0 }, 0},
	}
	for _, shape := range shapes {
		g := make([][]int, n)
		for b := range n - 1 {
			g[b] = shape.rows(b)
		}
		for b, got := range graph.Idom(g) {
			want := -1
			if b > 0 {
				want = shape.idom(b)
			}
			if got != want {
				t.Fatalf("%s: Idom of %d: %d, not %d", shape.name, b, got, want)
			}
		}
		if order := graph.Order(g); len(order) != n || order[0] != 0 {
			t.Errorf("%s: Order of %d", shape.name, len(order))
		}
		headers := graph.Headers(g)
		if len(headers) != shape.back || !graph.Reducible(g) {
			t.Errorf("%s: %d headers", shape.name, len(headers))
		}
		if len(headers) == 1 && len(graph.Body(g, headers[0])) != n-1 {
			t.Errorf("%s: Body", shape.name)
		}
	}
}
