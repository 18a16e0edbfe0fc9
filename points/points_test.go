package points_test

import (
	"fmt"
	"math"
	"math/rand"
	"reflect"
	"slices"
	"sync"
	"testing"

	"mirtower/api"
	"mirtower/build"
	"mirtower/points"
)

// spot is a block and a position in it.
type spot struct{ block, position int }

// block returns a block with a number of statements, and a terminator of a kind with targets.
func block(stmts, kind int, targets ...int) api.Block {
	return api.Block{Stmts: make([]api.Stmt, stmts), Term: api.Term{Kind: kind, Targets: targets}}
}

// body returns a body with blocks.
func body(blocks ...api.Block) api.Body { return api.Body{Blocks: blocks} }

// model answers the questions of the chapter for a body, from the list of the spots of its points.
type model struct {
	body  api.Body
	spots []spot
}

// newModel returns the model of a body.
func newModel(b api.Body) model {
	m := model{body: b}
	for i, x := range b.Blocks {
		for j := range x.Stmts {
			m.spots = append(m.spots, spot{i, j})
		}
		m.spots = append(m.spots, spot{i, len(x.Stmts)})
	}
	return m
}

// index returns the point of a spot.
func (m model) index(s spot) (int, bool) {
	i := slices.Index(m.spots, s)
	return max(i, 0), i >= 0
}

// isPoint reports whether a number is a point.
func (m model) isPoint(p int) bool { return p >= 0 && p < len(m.spots) }

// follows reports whether a point follows another one.
func (m model) follows(p, q int) bool {
	if !m.isPoint(p) || !m.isPoint(q) {
		return false
	}
	from, to := m.spots[p], m.spots[q]
	if from.position < len(m.body.Blocks[from.block].Stmts) {
		return to == spot{from.block, from.position + 1}
	}
	return to.position == 0 && slices.Contains(m.body.Blocks[from.block].Term.Targets, to.block)
}

// next returns the points that follow a point.
func (m model) next(p int) []int {
	var l []int
	for q := range m.spots {
		if m.follows(p, q) {
			l = append(l, q)
		}
	}
	return l
}

// reach returns a table that says which points reach which others.
func (m model) reach() [][]bool {
	n := len(m.spots)
	table := make([][]bool, n)
	for p := range table {
		table[p] = make([]bool, n)
		for q := range n {
			table[p][q] = m.follows(p, q)
		}
	}
	// A sequence is put together from those before and after one of its points.
	for by := range n {
		for p := range n {
			for q := range n {
				table[p][q] = table[p][q] || table[p][by] && table[by][q]
			}
		}
	}
	return table
}

// around returns the numbers from a little below 0 to a little above n, and the extremes.
func around(n int) []int {
	l := []int{math.MinInt, math.MinInt + 1, math.MinInt32}
	for i := -3; i <= n+3; i++ {
		l = append(l, i)
	}
	return append(l, math.MaxInt32, math.MaxInt-1, math.MaxInt)
}

// checkIndex checks a result of Index.
func checkIndex(t *testing.T, b api.Body, s spot, point int, found bool) {
	t.Helper()
	p, ok := points.Index(b, s.block, s.position)
	if p != point || ok != found {
		t.Errorf("Index of %v in %v: got %d, %v, want %d, %v", s, b, p, ok, point, found)
	}
}

// checkLocate checks a result of Locate.
func checkLocate(t *testing.T, b api.Body, point int, s spot, found bool) {
	t.Helper()
	i, j, ok := points.Locate(b, point)
	if (spot{i, j}) != s || ok != found {
		t.Errorf("Locate of %d in %v: got %d, %d, %v, want %v, %v", point, b, i, j, ok, s, found)
	}
}

// checkNext checks a result of Next.
func checkNext(t *testing.T, b api.Body, point int, want ...int) {
	t.Helper()
	if got := points.Next(b, point); !slices.Equal(got, want) {
		t.Errorf("Next of %d in %v: got %v, want %v", point, b, got, want)
	}
}

// checkEdges checks the result of Edges.
func checkEdges(t *testing.T, b api.Body, want ...[2]int) {
	t.Helper()
	if got := points.Edges(b); !slices.Equal(got, want) {
		t.Errorf("Edges of %v: got %v, want %v", b, got, want)
	}
}

// checkReaches checks a result of Reaches.
func checkReaches(t *testing.T, b api.Body, from, to int, want bool) {
	t.Helper()
	if got := points.Reaches(b, from, to); got != want {
		t.Errorf("Reaches from %d to %d in %v: got %v, want %v", from, to, b, got, want)
	}
}

// checkPoints compares Count, Index and Locate with the model.
func checkPoints(t *testing.T, b api.Body) {
	t.Helper()
	m := newModel(b)
	if n := points.Count(b); n != len(m.spots) {
		t.Errorf("Count of %v: got %d, want %d", b, n, len(m.spots))
	}
	most := 0
	for _, x := range b.Blocks {
		most = max(most, len(x.Stmts))
	}
	for _, i := range around(len(b.Blocks)) {
		for _, j := range around(most) {
			p, found := m.index(spot{i, j})
			checkIndex(t, b, spot{i, j}, p, found)
		}
	}
	for _, p := range around(len(m.spots)) {
		s := spot{}
		if m.isPoint(p) {
			s = m.spots[p]
		}
		checkLocate(t, b, p, s, m.isPoint(p))
	}
}

// checkFlow compares Next, Edges and Reaches with the model.
func checkFlow(t *testing.T, b api.Body) {
	t.Helper()
	m := newModel(b)
	var edges [][2]int
	for p := range m.spots {
		for _, q := range m.next(p) {
			edges = append(edges, [2]int{p, q})
		}
	}
	checkEdges(t, b, edges...)
	for _, p := range around(len(m.spots)) {
		checkNext(t, b, p, m.next(p)...)
	}
	table := m.reach()
	for _, p := range around(len(m.spots)) {
		for _, q := range around(len(m.spots)) {
			checkReaches(t, b, p, q, m.isPoint(p) && m.isPoint(q) && table[p][q])
		}
	}
}

// P11.4: checkConsequences checks that Index and Locate are inverse to each other, that each point belongs to one block, and that Reaches is transitive.
func checkConsequences(t *testing.T, b api.Body) {
	t.Helper()
	n := points.Count(b)
	for p := range n {
		i, j, found := points.Locate(b, p)
		if q, exists := points.Index(b, i, j); !found || !exists || p != q {
			t.Errorf("in %v, the point %d is at %d, %d, whose point is %d", b, p, i, j, q)
		}
	}
	owned := make([]int, n)
	for i, x := range b.Blocks {
		for j := range len(x.Stmts) + 1 {
			p, exists := points.Index(b, i, j)
			k, l, found := points.Locate(b, p)
			if !exists || !found || i != k || j != l {
				t.Errorf("in %v, the point of %d, %d is %d, which is at %d, %d", b, i, j, p, k, l)
			}
			if p < n {
				owned[p]++
			}
		}
	}
	for p, times := range owned {
		if times != 1 {
			t.Errorf("in %v, the point %d belongs to %d positions", b, p, times)
		}
	}
	for p := range n {
		for q := range n {
			for r := range n {
				if points.Reaches(b, p, q) && points.Reaches(b, q, r) && !points.Reaches(b, p, r) {
					t.Errorf("in %v, %d reaches %d and %d reaches %d, but %d does not", b, p, q, q, r, p)
				}
			}
		}
	}
}

// checkBody checks all functions for a body.
func checkBody(t *testing.T, b api.Body) {
	t.Helper()
	checkPoints(t, b)
	checkFlow(t, b)
}

// sample returns a body with blocks of several sizes, of which block 4 is not reached from block 0.
func sample() api.Body {
	return body(
		block(2, api.Goto, 2),       // 0 1 2
		block(0, api.Return),        // 3
		block(1, api.If, 3, 1),      // 4 5
		block(3, api.Call, 2),       // 6 7 8 9
		block(1, api.Drop, 4),       // 10 11
		block(0, api.Unreachable),   // 12
		block(0, api.Call, 7),       // 13
		block(2, api.Drop, 1),       // 14 15 16
		block(0, api.If, 8, 8),      // 17
		block(0, api.If, 5, 0),      // 18
		block(1, api.Goto, 0, 9, 3), // 19 20
	)
}

// The example of the chapter.
func TestExample(t *testing.T) {
	b := body(block(1, api.Goto, 1), block(0, api.Return))
	if n := points.Count(b); n != 3 {
		t.Errorf("got %d points", n)
	}
	checkIndex(t, b, spot{0, 0}, 0, true)
	checkIndex(t, b, spot{0, 1}, 1, true)
	checkIndex(t, b, spot{1, 0}, 2, true)
	checkEdges(t, b, [2]int{0, 1}, [2]int{1, 2})
	checkBody(t, b)
	checkConsequences(t, b)
}

// P11.1: the numbers of points.
func TestCount(t *testing.T) {
	for _, c := range []struct {
		b api.Body
		n int
	}{
		{api.Body{}, 0},
		{api.Body{Name: "f", Regions: []string{"a"}, Types: make([]api.Type, 3), Locals: make([]api.Local, 2), Args: 2}, 0},
		{body(block(0, api.Return)), 1},
		{body(block(1, api.Return)), 2},
		{body(block(5, api.Return)), 6},
		{body(make([]api.Block, 4)...), 4},
		{body(block(2, 7, 1, 2, 3), block(0, -1), block(3, api.Call)), 8},
		{sample(), 21},
	} {
		if n := points.Count(c.b); n != c.n {
			t.Errorf("Count of %v: got %d, want %d", c.b, n, c.n)
		}
	}
}

// P11.1: the points of positions, and positions and blocks that do not exist.
func TestIndex(t *testing.T) {
	b := sample()
	for i, l := range [][]int{{0, 1, 2}, {3}, {4, 5}, {6, 7, 8, 9}, {10, 11}, {12}, {13}, {14, 15, 16}, {17}, {18}, {19, 20}} {
		for j, p := range l {
			checkIndex(t, b, spot{i, j}, p, true)
			checkLocate(t, b, p, spot{i, j}, true)
		}
		for _, j := range []int{-1, len(l), len(l) + 1, math.MinInt, math.MaxInt, math.MaxInt - 2} {
			checkIndex(t, b, spot{i, j}, 0, false)
		}
	}
	for _, i := range []int{-1, 11, 12, math.MinInt, math.MaxInt} {
		for _, j := range []int{-1, 0, 1, math.MinInt, math.MaxInt} {
			checkIndex(t, b, spot{i, j}, 0, false)
		}
	}
	checkIndex(t, api.Body{}, spot{}, 0, false)
}

// P11.1: numbers that are not points.
func TestLocate(t *testing.T) {
	for _, p := range []int{-1, 21, 22, math.MinInt, math.MaxInt, math.MinInt + 1, math.MaxInt - 1} {
		checkLocate(t, sample(), p, spot{}, false)
	}
	for _, p := range []int{-1, 0, 1} {
		checkLocate(t, api.Body{}, p, spot{}, false)
	}
}

// P11.2: the points that follow points of all kinds.
func TestNext(t *testing.T) {
	b := sample()
	for p, l := range [][]int{
		{1}, {2}, {4},
		{},
		{5}, {3, 6},
		{7}, {8}, {9}, {4},
		{11}, {10},
		{},
		{14},
		{15}, {16}, {3},
		{17},
		{0, 12},
		{20}, {0, 6, 18},
	} {
		checkNext(t, b, p, l...)
	}
	for _, p := range []int{-1, 21, 22, math.MinInt, math.MaxInt} {
		checkNext(t, b, p)
		checkNext(t, api.Body{}, p)
	}
	checkNext(t, api.Body{}, 0)
}

// P11.2: what a statement is, and what else a terminator has, makes no difference.
func TestKindsDoNotMatter(t *testing.T) {
	kinds := append(around(6), 6, 7, 255)
	for _, kind := range kinds {
		b := body(block(2, kind, 3, 1), block(0, kind), block(1, kind, 2), block(0, kind, 0, 1, 2))
		for i := range b.Blocks {
			for j := range b.Blocks[i].Stmts {
				b.Blocks[i].Stmts[j] = api.Stmt{Kind: kind, Local: kind, Place: api.Place{Local: kind}}
			}
			b.Blocks[i].Term.Name = "g"
			b.Blocks[i].Term.Place = api.Place{Local: kind}
			b.Blocks[i].Term.Args = []api.Operand{{Kind: kind, N: math.MinInt64}}
		}
		checkEdges(t, b, [2]int{0, 1}, [2]int{1, 2}, [2]int{2, 3}, [2]int{2, 6}, [2]int{4, 5}, [2]int{5, 4},
			[2]int{6, 0}, [2]int{6, 3}, [2]int{6, 4})
		checkBody(t, b)
	}
}

// P11.2: targets that are not blocks, that occur more than once, and that are not in order.
func TestTargets(t *testing.T) {
	for _, c := range []struct {
		targets, next []int
	}{
		{nil, nil},
		{[]int{-1}, nil},
		{[]int{3}, nil},
		{[]int{4, -5, math.MinInt, math.MaxInt, math.MinInt32, math.MaxInt32}, nil},
		{[]int{0}, []int{0}},
		{[]int{1}, []int{3}},
		{[]int{2}, []int{4}},
		{[]int{2, 2}, []int{4}},
		{[]int{2, 0}, []int{0, 4}},
		{[]int{1, 0, 1, 0, 1}, []int{0, 3}},
		{[]int{2, 1, 0}, []int{0, 3, 4}},
		{[]int{math.MaxInt, 2, -1, 1, 3, 2, math.MinInt, 1}, []int{3, 4}},
	} {
		b := body(block(2, api.Return, c.targets...), block(0, api.Return), block(1, api.Return))
		checkNext(t, b, 2, c.next...)
		edges := [][2]int{{0, 1}, {1, 2}}
		for _, p := range c.next {
			edges = append(edges, [2]int{2, p})
		}
		checkEdges(t, b, append(edges, [2]int{4, 5})...)
		checkBody(t, b)
		checkConsequences(t, b)
	}
}

// P11.2: all edges of the sample, and bodies without edges.
func TestEdges(t *testing.T) {
	checkEdges(t, sample(), [][2]int{
		{0, 1}, {1, 2}, {2, 4},
		{4, 5}, {5, 3}, {5, 6},
		{6, 7}, {7, 8}, {8, 9}, {9, 4},
		{10, 11}, {11, 10},
		{13, 14},
		{14, 15}, {15, 16}, {16, 3},
		{17, 17},
		{18, 0}, {18, 12},
		{19, 20}, {20, 0}, {20, 6}, {20, 18},
	}...)
	checkEdges(t, api.Body{})
	checkEdges(t, body(make([]api.Block, 3)...))
	checkEdges(t, body(block(0, api.Goto, 0)), [2]int{0, 0})
}

// P11.3: points that reach each other, and those that do not.
func TestReaches(t *testing.T) {
	b := sample()
	for _, c := range []struct {
		from, to int
		want     bool
	}{
		{0, 1, true},    // the next point
		{0, 2, true},    // a later one of the block
		{0, 0, false},   // a point does not reach itself without a loop
		{2, 2, false},   // nor does a terminator
		{1, 0, false},   // an earlier one of the block
		{2, 4, true},    // a target
		{0, 9, true},    // by way of two blocks
		{9, 5, true},    // around a loop
		{4, 4, true},    // a point reaches itself around a loop
		{9, 9, true},    // the last point of a loop
		{7, 6, true},    // an earlier one of the block, around a loop
		{0, 3, true},    // out of a loop
		{3, 0, false},   // a Return reaches nothing
		{3, 3, false},   // not even itself
		{10, 10, true},  // a loop of one block
		{11, 11, true},  // its terminator
		{0, 10, false},  // a block that is no target
		{10, 12, false}, // and that leads nowhere else
		{17, 17, true},  // a loop of one point
		{16, 17, false}, // the point before
		{13, 3, true},   // into the same block from elsewhere
		{13, 16, true},  // the end of a block
		{18, 18, false}, // a terminator that leads elsewhere
		{18, 12, true},  // the first of two targets
		{18, 9, true},   // beyond the second one
		{20, 18, true},  // a target from the last block
		{20, 19, false}, // the point before, in the last block
		{19, 20, true},  // the last point
	} {
		checkReaches(t, b, c.from, c.to, c.want)
	}
	for _, p := range []int{-1, 21, 22, math.MinInt, math.MaxInt} {
		for _, q := range []int{p, 0, 20, -1, 21} {
			checkReaches(t, b, p, q, false)
			checkReaches(t, b, q, p, false)
		}
	}
	checkReaches(t, api.Body{}, 0, 0, false)
	checkReaches(t, api.Body{}, -1, 0, false)
}

// P11.3: a target that is not a block leads nowhere, in any block on the way.
func TestReachesBesideTargets(t *testing.T) {
	for _, bad := range []int{-1, 3, 4, math.MinInt, math.MaxInt} {
		b := body(block(1, api.Goto, bad, 1), block(1, api.If, bad, 2, bad), block(1, api.Return, bad))
		checkReaches(t, b, 0, 5, true)
		checkReaches(t, b, 5, 5, false)
		checkReaches(t, b, 2, 0, false)
		checkBody(t, b)
		b.Blocks[1].Term.Targets = []int{bad}
		checkReaches(t, b, 0, 4, false)
		checkReaches(t, b, 0, 3, true)
		checkBody(t, b)
	}
}

// P11.1 to P11.4: the sample, and bodies with few points.
func TestSmallBodies(t *testing.T) {
	checkBody(t, api.Body{})
	checkBody(t, sample())
	checkConsequences(t, sample())
	for stmts := range 4 {
		for _, targets := range [][]int{nil, {0}, {1}, {0, 0}, {1, 0}} {
			b := body(block(stmts, api.Goto, targets...))
			checkBody(t, b)
			checkConsequences(t, b)
		}
	}
	// All ways in which each of three blocks may lead to some of them.
	for ways := range 1 << 9 {
		blocks := []api.Block{block(1, api.Return), block(0, api.Return), block(2, api.Return)}
		for i := range 9 {
			if ways>>i&1 == 1 {
				blocks[i/3].Term.Targets = append(blocks[i/3].Term.Targets, i%3)
			}
		}
		checkFlow(t, body(blocks...))
	}
}

// arbitraryBody returns a body, some of whose targets are not blocks.
func arbitraryBody(pick func(int) int) api.Body {
	b := api.Body{}
	n := pick(7)
	for range n {
		x := block(pick(4), pick(8)-1)
		for range pick(4) {
			x.Term.Targets = append(x.Term.Targets, pick(n+2)-1)
		}
		b.Blocks = append(b.Blocks, x)
	}
	return b
}

// P11.1 to P11.4: arbitrary bodies, compared with the model.
func TestAgainstModel(t *testing.T) {
	r := rand.New(rand.NewSource(1))
	reached, separate, loops := 0, 0, 0
	for range 3000 {
		b := arbitraryBody(r.Intn)
		checkBody(t, b)
		for p, row := range newModel(b).reach() {
			for q, reaches := range row {
				switch {
				case reaches && p == q:
					loops++
				case reaches:
					reached++
				default:
					separate++
				}
			}
		}
	}
	if min(reached, separate, loops) < 1000 {
		t.Errorf("%d pairs reached, %d not, and %d loops", reached, separate, loops)
	}
	for range 200 {
		checkConsequences(t, arbitraryBody(r.Intn))
	}
}

// clone returns a copy of a body that shares no blocks, statements or targets with it.
func clone(b api.Body) api.Body {
	b.Blocks = slices.Clone(b.Blocks)
	for i := range b.Blocks {
		b.Blocks[i].Stmts = slices.Clone(b.Blocks[i].Stmts)
		b.Blocks[i].Term.Targets = slices.Clone(b.Blocks[i].Term.Targets)
	}
	return b
}

// useAll calls all functions for a body.
func useAll(b api.Body) {
	points.Edges(b)
	for _, p := range around(points.Count(b)) {
		points.Next(b, p)
		points.Locate(b, p)
		points.Reaches(b, 0, p)
	}
	for i := range b.Blocks {
		points.Index(b, i, 0)
	}
}

// Rule 4 of the document: arguments are not modified, and nothing behind the length of a slice is read.
func TestKeepsArguments(t *testing.T) {
	memory := sample()
	// Targets that are not in order would be sorted in their own memory by mistake.
	memory.Blocks[3].Term.Targets = []int{9, 2, 2, -1, 0, 2, 11}
	memory.Blocks = append(memory.Blocks, block(2, api.Goto, 0))
	before := clone(memory)
	b := memory
	b.Blocks = b.Blocks[:11]
	useAll(b)
	checkBody(t, b)
	b = clone(b)
	for i := range b.Blocks {
		x := &b.Blocks[i]
		x.Stmts = append(x.Stmts, make([]api.Stmt, 3)...)[:len(x.Stmts)]
		x.Term.Targets = append(x.Term.Targets, 0, 1, 2)[:len(x.Term.Targets)]
	}
	checkBody(t, b)
	for i := range b.Blocks {
		rest := b.Blocks[i].Term.Targets
		if !slices.Equal(rest[len(rest):len(rest)+3], []int{0, 1, 2}) {
			t.Errorf("what is behind the targets of block %d was modified", i)
		}
	}
	if !reflect.DeepEqual(memory, before) {
		t.Error("the body was modified")
	}
}

// P11.2: the results of Next and Edges are new memory.
func TestNewMemory(t *testing.T) {
	b := sample()
	b.Blocks[0].Term.Targets = []int{0, 1, 2}
	before := clone(b)
	for p := range points.Count(b) {
		want := slices.Clone(points.Next(b, p))
		for _, l := range [][]int{points.Next(b, p), points.Next(b, p)} {
			if !slices.Equal(l, want) {
				t.Errorf("Next of %d changed to %v", p, l)
			}
			l = append(l, 7, 7, 7)
			for i := range l[:cap(l)] {
				l[:cap(l)][i] = 7
			}
		}
		checkNext(t, b, p, want...)
	}
	want := slices.Clone(points.Edges(b))
	l := points.Edges(b)
	for i := range l[:cap(l)] {
		l[:cap(l)][i] = [2]int{7, 7}
	}
	checkEdges(t, b, want...)
	if !reflect.DeepEqual(b, before) {
		t.Error("a result shares memory with the body")
	}
}

// Rule 7 of the document: a result depends on the body as it is at the time of the call.
func TestCallsAreSeparate(t *testing.T) {
	b := sample()
	checkReaches(t, b, 0, 9, true)
	b.Blocks[2].Term.Targets[0] = 5
	checkReaches(t, b, 0, 9, false)
	checkNext(t, b, 5, 3, 12)
	b.Blocks[0].Stmts = b.Blocks[0].Stmts[:1]
	checkNext(t, b, 4, 2, 11)
	checkLocate(t, b, 2, spot{1, 0}, true)
	checkBody(t, b)
}

// P1 of the document: bodies with many points, blocks or targets do not take long.
func TestGreatBodies(t *testing.T) {
	const n = 1 << 20
	b := body(block(n, api.Goto, 0))
	checkNext(t, b, n, 0)
	checkLocate(t, b, n, spot{0, n}, true)
	checkIndex(t, b, spot{0, n}, n, true)
	checkReaches(t, b, n, n-1, true)
	if l := points.Edges(b); len(l) != n+1 || l[n] != [2]int{n, 0} {
		t.Errorf("got %d edges of a great block", len(l))
	}
	for p := range n {
		if i, j, found := points.Locate(b, p); i != 0 || j != p || !found {
			t.Fatalf("Locate of %d: got %d, %d, %v", p, i, j, found)
		}
		checkNext(t, b, p, p+1)
		checkReaches(t, b, p, 0, true)
	}

	// A chain of blocks that leads backwards.
	b = api.Body{Blocks: make([]api.Block, n)}
	for i := range n {
		b.Blocks[i] = api.Block{Term: api.Term{Targets: []int{i - 1}}}
	}
	checkReaches(t, b, n-1, 0, true)
	checkReaches(t, b, n-1, n-1, false)
	checkReaches(t, b, 0, n-1, false)
	if l := points.Edges(b); len(l) != n-1 || l[0] != [2]int{1, 0} {
		t.Errorf("got %d edges of a chain", len(l))
	}

	// Blocks all of which lead to all others, from the last one on.
	b = api.Body{Blocks: make([]api.Block, 1<<11)}
	targets := make([]int, 1<<12)
	for i := range targets {
		targets[i] = (len(targets) - 1 - i) / 2
	}
	for i := range b.Blocks {
		b.Blocks[i].Term.Targets = targets
	}
	b.Blocks[0].Term.Targets = nil
	checkReaches(t, b, 1, 0, true)
	checkReaches(t, b, 0, 1, false)
	if l := points.Edges(b); len(l) != (1<<11-1)<<11 || l[0] != [2]int{1, 0} {
		t.Errorf("got %d edges of blocks that lead to all others", len(l))
	}

	// A terminator that leads to one block very often.
	b = body(block(0, api.Goto, slices.Repeat([]int{1, 5}, n)...), block(0, api.Return))
	checkNext(t, b, 0, 1)
	checkEdges(t, b, [2]int{0, 1})
	checkReaches(t, b, 0, 0, false)
}

// Rule 6 of the document: the functions may be called concurrently, with the same body as well.
func TestConcurrentCalls(t *testing.T) {
	r := rand.New(rand.NewSource(2))
	l := []api.Body{sample()}
	for range 40 {
		l = append(l, arbitraryBody(r.Intn))
	}
	var group sync.WaitGroup
	for range 8 {
		group.Go(func() {
			for _, b := range l {
				checkBody(t, b)
			}
		})
	}
	group.Wait()
}

// Rule 4 of the document: an empty slice may be nil or not.
func TestEmptySlices(t *testing.T) {
	b := sample()
	for i, x := range b.Blocks {
		if len(x.Stmts) == 0 {
			b.Blocks[i].Stmts = nil
		}
		if len(x.Term.Targets) == 0 {
			b.Blocks[i].Term.Targets = []int{}
		}
	}
	checkBody(t, b)
	checkEdges(t, b, points.Edges(sample())...)
	checkBody(t, api.Body{Blocks: []api.Block{}})
}

// FuzzPoints compares bodies that are made of bytes with the model.
func FuzzPoints(f *testing.F) {
	f.Add([]byte{})
	f.Add([]byte{2, 1, 1, 1, 2, 0, 3, 0})
	f.Add([]byte(fmt.Sprint(sample())))
	f.Fuzz(func(t *testing.T, choices []byte) {
		b := arbitraryBody(build.Picker(choices))
		checkBody(t, b)
		checkConsequences(t, b)
	})
}
