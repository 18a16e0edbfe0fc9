package facts_test

import (
	"cmp"
	"fmt"
	"math"
	"math/rand"
	"reflect"
	"slices"
	"sync"
	"testing"

	"mirtower/api"
	"mirtower/bodies"
	"mirtower/build"
	"mirtower/conflict"
	"mirtower/facts"
	"mirtower/liveness"
	"mirtower/places"
	"mirtower/points"
	"mirtower/valid"
)

// star stands for a Deref in a list of projections, where any other number is the component of a Field.
const star = build.Star

// The types of the sample body.
const (
	integer = iota
	boolean // bool
	refA    // &'a int
	mutA    // &'a mut int
	pair    // (int, int)
	mutPair // &'b mut (int, int)
	nested  // &'b mut &'a mut int
)

// The locals of the sample body.
const (
	x = iota // int
	y        // int
	p        // bool
	r        // &'a int
	s        // &'a int
	m        // &'a mut int
	t        // (int, int)
	q        // &'b mut (int, int)
	n        // &'b mut &'a mut int
)

// extremes are numbers that are not in any small range.
var extremes = []int{-1, -2, math.MinInt, math.MaxInt, math.MinInt32, math.MaxInt32, 1 << 32, -1 << 32}

// The functions of package build under short names.
var (
	at, copyOf, move, number, truth = build.At, build.CopyOf, build.Move, build.Number, build.Truth
	use, borrow, binary, makeTuple  = build.Use, build.Borrow, build.Binary, build.MakeTuple
	assign, dead, nop, block        = build.Assign, build.Dead, build.Nop, build.Block
	goTo, branch, call, drop, leave = build.Goto, build.Branch, build.Call, build.Drop, build.Leave
)

// sample returns a body with the sample's declarations and some blocks, in new memory.
func sample(blocks ...api.Block) api.Body {
	b := api.Body{
		Name:     "main",
		Regions:  []string{"a", "b", "c"},
		Outlives: [][2]int{{1, 0}},
		Types: []api.Type{
			{Kind: api.Int}, {Kind: api.Bool}, build.Ref(false, 0, integer), build.Ref(true, 0, integer),
			build.Tuple(integer, integer), build.Ref(true, 1, pair), build.Ref(true, 1, mutA),
		},
		Blocks: blocks,
	}
	for i, k := range []int{integer, integer, boolean, refA, refA, mutA, pair, mutPair, nested} {
		b.Locals = append(b.Locals, api.Local{Name: fmt.Sprint("x", i), Type: k})
	}
	return b
}

// pairs returns a list of pairs, given as numbers.
func pairs(l ...int) [][2]int {
	var all [][2]int
	for k := range slices.Chunk(l, 2) {
		all = append(all, [2]int(k))
	}
	return all
}

// needValid ends a test if its body is not valid.
func needValid(test *testing.T, b api.Body) {
	test.Helper()
	if e := valid.Check(b); e != api.OK {
		test.Fatalf("%s is not valid: %v", show(b.Blocks), e)
	}
}

// show returns a text for a value, cut if it is long.
func show(v any) string {
	k := fmt.Sprintf("%+v", v)
	return k[:min(len(k), 3000)]
}

// text returns a text for a table, in which an empty list is the same whether it is nil or not.
func text(f api.Facts) string { return fmt.Sprintf("%v", f) }

// model returns the facts of a valid body as the chapter says them: each point is asked about each loan.
func model(b api.Body) api.Facts {
	f := api.Facts{Edges: points.Edges(b)}
	f.Live, _ = liveness.Regions(b)
	for point := range points.Count(b) {
		i, j, _ := points.Locate(b, point)
		if j == len(b.Blocks[i].Stmts) {
			continue
		}
		if k := b.Blocks[i].Stmts[j]; k.Kind == api.Assign && k.Rvalue.Kind == api.Borrow {
			f.Loans = append(f.Loans, api.Loan{Region: k.Rvalue.Region, Point: point, Mut: k.Rvalue.Mut, Place: k.Rvalue.Place})
		}
	}
	for i, l := range f.Loans {
		for point := range points.Count(b) {
			if conflict.Kills(b, point, l) {
				f.Killed = append(f.Killed, [2]int{i, point})
			}
			if conflict.Invalidates(b, point, l) {
				f.Invalid = append(f.Invalid, [2]int{i, point})
			}
		}
	}
	return f
}

// checkExtract checks the result of Extract for a valid body, and that it is a valid table.
func checkExtract(test *testing.T, b api.Body, want api.Facts) {
	test.Helper()
	got, e := facts.Extract(b)
	if e != api.OK || text(got) != text(want) {
		test.Errorf("Extract of %s: got %s, %v, want %s", show(b), show(got), e, show(want))
	}
	checkTable(test, got, points.Count(b), len(b.Regions), api.OK)
}

// checkTable checks a result of Check.
func checkTable(test *testing.T, f api.Facts, points, regions int, want api.Errno) {
	test.Helper()
	if got := facts.Check(f, points, regions); got != want {
		test.Errorf("Check of %s for %d points and %d regions: got %v, want %v", show(f), points, regions, got, want)
	}
}

// checkEqual checks a result of Equal, for both orders.
func checkEqual(test *testing.T, f, g api.Facts, want bool) {
	test.Helper()
	if got, swapped := facts.Equal(f, g), facts.Equal(g, f); got != want || swapped != want {
		test.Errorf("Equal of %s and %s: got %v and %v, want %v", show(f), show(g), got, swapped, want)
	}
}

// The example of the chapter.
func TestExample(test *testing.T) {
	b := sample(block(leave(), assign(at(r), borrow(0, false, at(x)))))
	needValid(test, b)
	want := api.Facts{Loans: []api.Loan{{Place: at(x)}}, Edges: pairs(0, 1)}
	checkExtract(test, b, want)
	b.Blocks[0].Stmts[0] = assign(at(m), borrow(0, true, at(x)))
	needValid(test, b)
	want.Loans[0].Mut, want.Invalid = true, pairs(0, 0)
	checkExtract(test, b, want)
}

// P14.1: the facts of bodies, as they are found by hand.
func TestExtract(test *testing.T) {
	for _, c := range []struct {
		blocks []api.Block
		want   api.Facts
	}{
		{[]api.Block{block(leave())}, api.Facts{}},
		{[]api.Block{block(goTo(0), nop())}, api.Facts{Edges: pairs(0, 1, 1, 0)}},
		{[]api.Block{block(leave(), assign(at(r), use(copyOf(s))), dead(r))}, api.Facts{Edges: pairs(0, 1, 1, 2), Live: pairs(0, 0, 1, 0)}},
		// Loans of several places, and points of several kinds.
		{
			[]api.Block{block(leave(),
				assign(at(m), borrow(0, true, at(x))),
				assign(at(x), use(number(1))),
				assign(at(r), borrow(0, false, at(y))),
				assign(at(y), use(copyOf(x))),
				assign(at(m), borrow(0, true, at(q, star, 0))),
				assign(at(q), borrow(1, true, at(t))),
				assign(at(m, star), use(copyOf(r, star))),
				assign(at(t, 1), use(copyOf(t, 0))),
			)},
			api.Facts{
				Loans: []api.Loan{
					{Region: 0, Point: 0, Mut: true, Place: at(x)},
					{Region: 0, Point: 2, Place: at(y)},
					{Region: 0, Point: 4, Mut: true, Place: at(q, star, 0)},
					{Region: 1, Point: 5, Mut: true, Place: at(t)},
				},
				Edges:   pairs(0, 1, 1, 2, 2, 3, 3, 4, 4, 5, 5, 6, 6, 7, 7, 8),
				Killed:  pairs(2, 5),
				Invalid: pairs(0, 0, 0, 1, 0, 3, 1, 3, 2, 4, 3, 5, 3, 7),
				Live:    pairs(0, 3, 0, 4, 0, 5, 0, 6, 1, 0, 1, 1, 1, 2, 1, 3, 1, 4, 1, 5, 1, 6),
			},
		},
		// Several blocks: a point behind the loan and one before it, and terminators.
		{
			[]api.Block{
				block(call(at(x), 1, copyOf(y))),
				block(branch(copyOf(p), 2, 0), assign(at(r), borrow(0, false, at(x)))),
				block(drop(at(y), 3), dead(x)),
				block(api.Term{Kind: api.Unreachable}, assign(at(s), borrow(0, false, at(r, star))), dead(r)),
			},
			api.Facts{
				Loans:   []api.Loan{{Point: 1, Place: at(x)}, {Point: 5, Place: at(r, star)}},
				Edges:   pairs(0, 1, 1, 2, 2, 0, 2, 3, 3, 4, 4, 5, 5, 6, 6, 7),
				Killed:  pairs(1, 1),
				Invalid: pairs(0, 0, 0, 3),
				Live:    pairs(0, 2, 0, 3, 0, 4, 0, 5, 1, 2, 1, 3, 1, 4, 1, 5),
			},
		},
		// Operands that are moved or copied, also several times at the same point, and a call that kills.
		{
			[]api.Block{
				block(call(at(m), 1, move(m), copyOf(x), copyOf(x), copyOf(x)), assign(at(m), borrow(0, true, at(x))), assign(at(n), borrow(1, true, at(m))), assign(at(r), borrow(0, false, at(m, star)))),
				block(leave(), assign(at(t), makeTuple(copyOf(x), move(x))), assign(at(x), binary(api.Add, copyOf(x), copyOf(y)))),
			},
			api.Facts{
				Loans:   []api.Loan{{Point: 0, Mut: true, Place: at(x)}, {Region: 1, Point: 1, Mut: true, Place: at(m)}, {Point: 2, Place: at(m, star)}},
				Edges:   pairs(0, 1, 1, 2, 2, 3, 3, 4, 4, 5, 5, 6),
				Killed:  pairs(2, 0, 2, 3),
				Invalid: pairs(0, 0, 0, 3, 0, 4, 0, 5, 1, 0, 1, 1, 1, 2, 1, 3, 2, 1, 2, 3),
				Live:    pairs(0, 1, 0, 2, 0, 3, 1, 1, 1, 2, 1, 3),
			},
		},
	} {
		b := sample(c.blocks...)
		needValid(test, b)
		checkExtract(test, b, c.want)
		if got := model(b); text(got) != text(c.want) {
			test.Errorf("the model has %v for %v", got, c.want)
		}
	}
}

// P14.1: a body that is not valid has no facts.
func TestExtractInvalid(test *testing.T) {
	good := func() api.Body {
		return sample(block(goTo(1), assign(at(r), borrow(0, false, at(x)))), block(leave(), assign(at(x), use(number(1)))))
	}
	needValid(test, good())
	for i, spoil := range []func(*api.Body){
		func(b *api.Body) { *b = api.Body{} },
		func(b *api.Body) { b.Name = "" },
		func(b *api.Body) { b.Regions[0] = "1" },
		func(b *api.Body) { b.Outlives = pairs(1, 1) },
		func(b *api.Body) { b.Types[1].Kind = 7 },
		func(b *api.Body) { b.Locals[1].Type = -1 },
		func(b *api.Body) { b.Args = -1 },
		func(b *api.Body) { b.Blocks = nil },
		func(b *api.Body) { b.Blocks[0].Term = goTo(2) },
		func(b *api.Body) { b.Blocks[1].Term.Kind = -1 },
		func(b *api.Body) { b.Blocks[0].Stmts[0].Rvalue.Region = 1 },
		func(b *api.Body) { b.Blocks[0].Stmts[0].Rvalue.Mut = true },
		func(b *api.Body) { b.Blocks[0].Stmts[0].Rvalue.Place = at(100) },
		func(b *api.Body) { b.Blocks[1].Stmts[0] = assign(at(x), use(truth(1))) },
		func(b *api.Body) { b.Blocks[1].Stmts[0] = dead(-1) },
	} {
		b := good()
		spoil(&b)
		if f, e := facts.Extract(b); e != api.ErrInvalid || !reflect.DeepEqual(f, api.Facts{}) {
			test.Errorf("body %d: got %v, %v", i, f, e)
		}
	}
}

// P14.1 and P14.4: arbitrary bodies against the model.
func TestArbitraryBodies(test *testing.T) {
	random := rand.New(rand.NewSource(1))
	loans, killed, invalid := 0, 0, 0
	for range 3000 {
		b := build.Arbitrary(6, random.Intn)
		want := model(b)
		checkExtract(test, b, want)
		loans, killed, invalid = loans+len(want.Loans), killed+len(want.Killed), invalid+len(want.Invalid)
	}
	if loans < 2000 || killed < 2000 || invalid < 4000 {
		test.Errorf("only %d loans, %d killed and %d invalid", loans, killed, invalid)
	}
}

// good returns a valid table for 5 points and 3 regions, in new memory.
func good() api.Facts {
	return api.Facts{
		Loans:   []api.Loan{{Region: 2, Point: 1, Mut: true, Place: at(3, star, 4)}, {Region: 0, Point: 2, Place: at(0)}, {Region: 1, Point: 4, Place: at(70000, 70000)}},
		Edges:   pairs(0, 0, 0, 4, 1, 3, 4, 0),
		Killed:  pairs(0, 0, 0, 1, 2, 4),
		Invalid: pairs(0, 4, 1, 0, 1, 1),
		Live:    pairs(0, 0, 0, 4, 2, 3),
	}
}

// P14.2: tables that are valid and tables that are not.
func TestCheck(test *testing.T) {
	checkTable(test, good(), 5, 3, api.OK)
	checkTable(test, good(), 6, 4, api.OK)
	checkTable(test, good(), math.MaxInt, math.MaxInt, api.OK)
	for _, points := range append([]int{0, 1, 5}, extremes...) {
		for _, regions := range append([]int{0, 1, 5}, extremes...) {
			checkTable(test, api.Facts{}, points, regions, api.OK)
			if points < 5 || regions < 3 {
				checkTable(test, good(), points, regions, api.ErrRange)
			}
		}
	}
	checkTable(test, good(), 4, 3, api.ErrRange)
	checkTable(test, good(), 5, 2, api.ErrRange)
	long := slices.Repeat([]api.Proj{{Kind: api.Deref}}, api.MaxDepth+1)
	for i, c := range []struct {
		spoil func(*api.Facts)
		want  api.Errno
	}{
		{func(f *api.Facts) { f.Loans[0].Region = 3 }, api.ErrRange},
		{func(f *api.Facts) { f.Loans[1].Region = -1 }, api.ErrRange},
		{func(f *api.Facts) { f.Loans[2].Point = 5 }, api.ErrRange},
		{func(f *api.Facts) { f.Loans[0].Point = -1 }, api.ErrRange},
		{func(f *api.Facts) { f.Loans[0].Place.Local = -1 }, api.ErrRange},
		{func(f *api.Facts) { f.Loans[1].Place.Local = math.MaxInt }, api.OK},
		{func(f *api.Facts) { f.Loans[1].Place.Proj = long }, api.ErrDepth},
		{func(f *api.Facts) { f.Loans[1].Place.Proj = long[1:] }, api.OK},
		{func(f *api.Facts) { f.Loans[1].Place.Proj = []api.Proj{{Kind: 2}} }, api.ErrKind},
		{func(f *api.Facts) { f.Loans[1].Place.Proj = []api.Proj{{Kind: api.Deref, Field: 1}} }, api.ErrArg},
		{func(f *api.Facts) { f.Loans[1].Place.Proj = []api.Proj{{Kind: api.Field, Field: -1}} }, api.ErrRange},
		{func(f *api.Facts) { f.Loans[1].Point = 1 }, api.ErrDuplicate},
		{func(f *api.Facts) { f.Loans[2].Point = 0 }, api.ErrDuplicate},
		{func(f *api.Facts) { f.Loans[1], f.Loans[2] = f.Loans[2], f.Loans[1] }, api.ErrDuplicate},
		{func(f *api.Facts) { f.Loans[1] = f.Loans[0] }, api.ErrDuplicate},
		// A loan is checked in this order: its numbers, its place, and the order of the loans.
		{func(f *api.Facts) { f.Loans[1] = api.Loan{Region: 3, Point: 1, Place: api.Place{Proj: long}} }, api.ErrRange},
		{func(f *api.Facts) { f.Loans[1] = api.Loan{Point: 1, Place: api.Place{Proj: long}} }, api.ErrDepth},
		{func(f *api.Facts) { f.Loans[1], f.Loans[2].Region = f.Loans[0], 3 }, api.ErrDuplicate},
		{func(f *api.Facts) { f.Loans[1].Place.Proj, f.Loans[2].Region = long, 3 }, api.ErrDepth},

		{func(f *api.Facts) { f.Edges[0][0] = -1 }, api.ErrRange},
		{func(f *api.Facts) { f.Edges[1][1] = 5 }, api.ErrRange},
		{func(f *api.Facts) { f.Edges[3][0] = 5 }, api.ErrRange},
		{func(f *api.Facts) { f.Edges[3][1] = -1 }, api.ErrRange},
		{func(f *api.Facts) { f.Edges[1] = f.Edges[0] }, api.ErrDuplicate},
		{func(f *api.Facts) { f.Edges[2] = [2]int{0, 3} }, api.ErrDuplicate},
		{func(f *api.Facts) { slices.Reverse(f.Edges) }, api.ErrDuplicate},
		{func(f *api.Facts) { f.Edges[1], f.Edges[2] = [2]int{0, 0}, [2]int{9, 9} }, api.ErrDuplicate},
		{func(f *api.Facts) { f.Edges[0], f.Edges[2] = [2]int{9, 9}, [2]int{0, 0} }, api.ErrRange},
		{func(f *api.Facts) { f.Edges[2] = [2]int{0, 5} }, api.ErrRange},

		{func(f *api.Facts) { f.Killed[0][0] = -1 }, api.ErrRange},
		{func(f *api.Facts) { f.Killed[2][0] = 3 }, api.ErrRange},
		{func(f *api.Facts) { f.Killed[2][1] = 5 }, api.ErrRange},
		{func(f *api.Facts) { f.Killed[0][1] = -1 }, api.ErrRange},
		{func(f *api.Facts) { f.Killed[1][1] = 0 }, api.ErrDuplicate},
		{func(f *api.Facts) { f.Killed[2][0] = 0; f.Killed[2][1] = 0 }, api.ErrDuplicate},

		{func(f *api.Facts) { f.Invalid[0][0] = -1 }, api.ErrRange},
		{func(f *api.Facts) { f.Invalid[2][0] = 3 }, api.ErrRange},
		{func(f *api.Facts) { f.Invalid[2][1] = 5 }, api.ErrRange},
		{func(f *api.Facts) { f.Invalid[0][1] = -1 }, api.ErrRange},
		{func(f *api.Facts) { f.Invalid[2][1] = 0 }, api.ErrDuplicate},
		{func(f *api.Facts) { f.Invalid[1][0] = 0 }, api.ErrDuplicate},

		{func(f *api.Facts) { f.Live[0][0] = -1 }, api.ErrRange},
		{func(f *api.Facts) { f.Live[2][0] = 3 }, api.ErrRange},
		{func(f *api.Facts) { f.Live[2][1] = 5 }, api.ErrRange},
		{func(f *api.Facts) { f.Live[0][1] = -1 }, api.ErrRange},
		{func(f *api.Facts) { f.Live[1][1] = 0 }, api.ErrDuplicate},
		{func(f *api.Facts) { f.Live[2] = [2]int{0, 3} }, api.ErrDuplicate},

		// The lists are checked one after another.
		{func(f *api.Facts) { f.Loans[1].Point, f.Edges[0][0] = 1, -1 }, api.ErrDuplicate},
		{func(f *api.Facts) { f.Edges[1], f.Killed[0][0] = f.Edges[0], -1 }, api.ErrDuplicate},
		{func(f *api.Facts) { f.Killed[1], f.Invalid[0][0] = f.Killed[0], -1 }, api.ErrDuplicate},
		{func(f *api.Facts) { f.Invalid[2], f.Live[0][0] = f.Invalid[1], -1 }, api.ErrDuplicate},
		{func(f *api.Facts) { f.Live[1], f.Invalid[0][0] = f.Live[0], -1 }, api.ErrRange},
		{func(f *api.Facts) { f.Invalid[2], f.Killed[0][0] = f.Invalid[1], -1 }, api.ErrRange},
		{func(f *api.Facts) { f.Killed[1], f.Edges[0][0] = f.Killed[0], -1 }, api.ErrRange},
		{func(f *api.Facts) { f.Edges[1], f.Loans[0].Region = f.Edges[0], -1 }, api.ErrRange},

		// A list that is left out makes no difference for others, but there are no indices of no loans.
		{func(f *api.Facts) { f.Loans = nil }, api.ErrRange},
		{func(f *api.Facts) { f.Loans, f.Killed = nil, nil }, api.ErrRange},
		{func(f *api.Facts) { f.Loans, f.Killed, f.Invalid = nil, nil, nil }, api.OK},
		{func(f *api.Facts) { f.Edges, f.Live = nil, nil }, api.OK},
	} {
		f := good()
		c.spoil(&f)
		if got := facts.Check(f, 5, 3); got != c.want {
			test.Errorf("table %d: got %v, want %v", i, got, c.want)
		}
		if got := modelCheck(f, 5, 3); got != c.want {
			test.Errorf("table %d: the model has %v, want %v", i, got, c.want)
		}
	}
	// Each number has its own limit.
	f := api.Facts{Loans: make([]api.Loan, 2), Edges: pairs(6, 6), Killed: pairs(1, 6), Invalid: pairs(1, 6), Live: pairs(3, 6)}
	f.Loans[1].Point = 6
	checkTable(test, f, 7, 4, api.OK)
	checkTable(test, f, 7, 3, api.ErrRange)
	f.Killed = pairs(2, 6)
	checkTable(test, f, 7, 4, api.ErrRange)
}

// P14.2: the limits of the lists come before all other errors.
func TestCheckLimit(test *testing.T) {
	const most = api.MaxFacts
	many := make([][2]int, most+1)
	spoiled := good()
	spoiled.Loans[0].Point, spoiled.Edges[0][0] = -1, -1
	for i := range 4 {
		f := spoiled
		l := []*[][2]int{&f.Edges, &f.Killed, &f.Invalid, &f.Live}[i]
		*l = many
		checkTable(test, f, 5, 3, api.ErrLimit)
		*l = many[:most]
		checkTable(test, f, 5, 3, api.ErrRange)
	}
	f := good()
	f.Loans = make([]api.Loan, most+1)
	checkTable(test, f, 5, 3, api.ErrLimit)
	f.Loans = f.Loans[:most]
	checkTable(test, f, 5, 3, api.ErrDuplicate)
	for i := range most {
		many[i] = [2]int{i >> 12, i & (1<<12 - 1)}
	}
	f = api.Facts{Edges: many[:most], Live: many[:most]}
	checkTable(test, f, 1<<12, 1<<12, api.OK)
	checkTable(test, f, 1<<12, 1<<12-1, api.ErrRange)
}

// modelCheck is Check as the chapter says it: all errors are found, and then the first one is taken.
func modelCheck(f api.Facts, points, regions int) api.Errno {
	var errors []api.Errno
	note := func(isError bool, e api.Errno) {
		if isError && e != api.OK {
			errors = append(errors, e)
		}
	}
	isOutside := func(i, n int) bool { return i < 0 || i > n-1 }
	for _, size := range []int{len(f.Loans), len(f.Edges), len(f.Killed), len(f.Invalid), len(f.Live)} {
		note(size > api.MaxFacts, api.ErrLimit)
	}
	for i, l := range f.Loans {
		note(isOutside(l.Region, regions) || isOutside(l.Point, points), api.ErrRange)
		note(true, places.Check(l.Place))
		note(i > 0 && l.Point <= f.Loans[max(0, i-1)].Point, api.ErrDuplicate)
	}
	visit := func(l [][2]int, first, second int) {
		for i, k := range l {
			note(isOutside(k[0], first) || isOutside(k[1], second), api.ErrRange)
			if i > 0 {
				before := l[i-1]
				note(k[0] < before[0] || k[0] == before[0] && k[1] <= before[1], api.ErrDuplicate)
			}
		}
	}
	visit(f.Edges, points, points)
	visit(f.Killed, len(f.Loans), points)
	visit(f.Invalid, len(f.Loans), points)
	visit(f.Live, regions, points)
	return append(errors, api.OK)[0]
}

// spoiled returns a copy of a table with some arbitrary changes.
func spoiled(f api.Facts, pick func(int) int) api.Facts {
	f = facts.Clone(f)
	some := func() int { return append([]int{0, 1, 2, 3, 4, 5}, extremes...)[pick(6+len(extremes))] }
	for range 1 + pick(2) {
		l := []*[][2]int{&f.Edges, &f.Killed, &f.Invalid, &f.Live}[pick(4)]
		i, k := pick(len(f.Loans)+1), pick(len(*l)+1)
		switch choice := pick(10); {
		case choice == 0 && i < len(f.Loans):
			f.Loans[i].Region = some()
		case choice == 1 && i < len(f.Loans):
			f.Loans[i].Point = some()
		case choice == 2 && i < len(f.Loans):
			f.Loans[i].Place = api.Place{Local: some(), Proj: slices.Repeat([]api.Proj{{Kind: pick(3), Field: pick(3) - 1}}, pick(40))}
		case choice == 3:
			f.Loans = slices.Insert(f.Loans, i, api.Loan{Region: some(), Point: some(), Place: at(some())})
		case choice == 4 && i < len(f.Loans):
			f.Loans = slices.Delete(f.Loans, i, i+1)
		case choice < 7 && k < len(*l):
			(*l)[k][pick(2)] = some()
		case choice == 7 && k < len(*l):
			*l = slices.Delete(*l, k, k+1)
		default:
			*l = slices.Insert(*l, k, [2]int{some(), some()})
		}
	}
	return f
}

// P14.2 and P14.3: arbitrary tables against the model.
func TestArbitraryTables(test *testing.T) {
	random := rand.New(rand.NewSource(2))
	seen := map[api.Errno]int{}
	for range 20000 {
		f := good()
		if random.Intn(3) == 0 {
			f, _ = facts.Extract(build.Arbitrary(3, random.Intn))
		}
		g := spoiled(f, random.Intn)
		points, regions := 1+random.Intn(6), 1+random.Intn(4)
		want := modelCheck(g, points, regions)
		checkTable(test, g, points, regions, want)
		checkEqual(test, f, g, text(f) == text(g))
		seen[want]++
	}
	for _, e := range []api.Errno{api.OK, api.ErrRange, api.ErrDepth, api.ErrKind, api.ErrArg, api.ErrDuplicate} {
		if seen[e] < 20 {
			test.Errorf("%v only %d times", e, seen[e])
		}
	}
}

// P14.3: tables that differ in one field are not equal.
func TestEqual(test *testing.T) {
	checkEqual(test, good(), good(), true)
	checkEqual(test, api.Facts{}, api.Facts{}, true)
	checkEqual(test, good(), api.Facts{}, false)
	for i, change := range []func(*api.Facts){
		func(f *api.Facts) { f.Loans[0].Region++ },
		func(f *api.Facts) { f.Loans[1].Point++ },
		func(f *api.Facts) { f.Loans[2].Mut = true },
		func(f *api.Facts) { f.Loans[2].Place.Local++ },
		func(f *api.Facts) { f.Loans[0].Place.Proj[0].Kind++ },
		func(f *api.Facts) { f.Loans[0].Place.Proj[1].Field++ },
		func(f *api.Facts) { f.Loans[0].Place.Proj = f.Loans[0].Place.Proj[:1] },
		func(f *api.Facts) { f.Loans[1].Place = at(0, star) },
		func(f *api.Facts) { f.Loans = f.Loans[:2] },
		func(f *api.Facts) { f.Loans = append(f.Loans, api.Loan{}) },
		func(f *api.Facts) { f.Loans[0], f.Loans[1] = f.Loans[1], f.Loans[0] },
		func(f *api.Facts) { f.Edges[0][0]++ },
		func(f *api.Facts) { f.Edges[3][1]++ },
		func(f *api.Facts) { f.Edges = f.Edges[:3] },
		func(f *api.Facts) { f.Edges = append(f.Edges, [2]int{}) },
		func(f *api.Facts) { f.Killed[0][1]++ },
		func(f *api.Facts) { f.Killed = nil },
		func(f *api.Facts) { f.Invalid[2][0]++ },
		func(f *api.Facts) { f.Invalid = f.Invalid[1:] },
		func(f *api.Facts) { f.Live[2][1]++ },
		func(f *api.Facts) { f.Live = f.Live[:2] },
		func(f *api.Facts) { f.Killed, f.Invalid = f.Invalid, f.Killed },
		func(f *api.Facts) { f.Edges, f.Live = f.Live, f.Edges },
		// Tables that are not valid are compared as well.
		func(f *api.Facts) { f.Loans[0].Place.Proj[0].Field = -1 },
		func(f *api.Facts) { f.Edges[0], f.Edges[1] = f.Edges[1], f.Edges[0] },
	} {
		f := good()
		change(&f)
		if text(f) == text(good()) {
			test.Errorf("change %d is none", i)
		}
		checkEqual(test, f, good(), false)
		checkEqual(test, f, facts.Clone(f), true)
	}
}

// emptied returns a table without elements.
func emptied() api.Facts {
	return api.Facts{Loans: make([]api.Loan, 0, 1), Edges: make([][2]int, 0, 1), Killed: [][2]int{}, Invalid: [][2]int{}, Live: [][2]int{}}
}

// Rule 4 of the document: an empty slice may be nil or not.
func TestEmptySlices(test *testing.T) {
	checkEqual(test, api.Facts{}, emptied(), true)
	checkEqual(test, api.Facts{}, facts.Clone(emptied()), true)
	checkEqual(test, emptied(), facts.Clone(api.Facts{}), true)
	checkTable(test, emptied(), 0, 0, api.OK)
	f, g := good(), good()
	f.Loans[1].Place.Proj, g.Loans[1].Place.Proj = nil, []api.Proj{}
	checkEqual(test, f, g, true)
	checkTable(test, g, 5, 3, api.OK)
	random := rand.New(rand.NewSource(3))
	for range 50 {
		b := build.Arbitrary(4, random.Intn)
		want := model(b)
		checkExtract(test, build.Emptied(b, true), want)
		checkExtract(test, build.Emptied(b, false), want)
	}
}

// P14.3: the number of all elements.
func TestSize(test *testing.T) {
	for _, c := range []struct {
		f    api.Facts
		want int
	}{
		{api.Facts{}, 0},
		{emptied(), 0},
		{good(), 16},
		{api.Facts{Loans: good().Loans}, 3},
		{api.Facts{Edges: pairs(1, 1, 0, 0)}, 2},
		{api.Facts{Killed: pairs(-1, -1)}, 1},
		{api.Facts{Invalid: pairs(1, 1, 1, 1, 1, 1, 1, 1)}, 4},
		{api.Facts{Live: pairs(0, 0)}, 1},
		{api.Facts{Loans: make([]api.Loan, 1), Edges: make([][2]int, 10), Killed: make([][2]int, 100), Invalid: make([][2]int, 1000), Live: make([][2]int, 10000)}, 11111},
	} {
		if got := facts.Size(c.f); got != c.want {
			test.Errorf("Size of %s: got %d, want %d", show(c.f), got, c.want)
		}
	}
}

// overwrite changes all memory of a table, up to the capacity of its slices.
func overwrite(f api.Facts) {
	for _, l := range f.Loans[:cap(f.Loans)] {
		build.Overwrite(l.Place.Proj, api.Proj{Kind: 7, Field: 7})
	}
	build.Overwrite(f.Loans, api.Loan{Region: 7, Point: 7})
	for _, l := range [][][2]int{f.Edges, f.Killed, f.Invalid, f.Live} {
		build.Overwrite(l, [2]int{7, 7})
	}
}

// P14.3: a copy shares no memory with its original, and its lists share none with each other.
func TestClone(test *testing.T) {
	random := rand.New(rand.NewSource(4))
	for range 300 {
		f := good()
		if random.Intn(2) == 0 {
			f = spoiled(f, random.Intn)
		}
		want := text(f)
		g := facts.Clone(f)
		h := facts.Clone(f)
		checkEqual(test, f, g, true)
		overwrite(g)
		if text(f) != want || text(h) != want {
			test.Fatalf("a copy of %s shares memory", want)
		}
		overwrite(f)
		if text(h) != want {
			test.Fatalf("a copy of %s shares memory", want)
		}
		checkApart(test, h)
	}
	// One list may be all lists of a table, and one list of projections that of all loans.
	all, projs := pairs(0, 0, 0, 1), at(0, star, 1).Proj
	f := api.Facts{Edges: all, Killed: all, Invalid: all, Live: all}
	for i := range 3 {
		f.Loans = append(f.Loans, api.Loan{Point: i, Place: api.Place{Proj: projs}})
	}
	checkApart(test, facts.Clone(f))
}

// checkApart checks that no two slices of a table share memory.
func checkApart(test *testing.T, f api.Facts) {
	test.Helper()
	lists := []*[][2]int{&f.Edges, &f.Killed, &f.Invalid, &f.Live}
	for i := range lists {
		before := text(f)
		old := slices.Clone(*lists[i])
		build.Overwrite(*lists[i], [2]int{9, 9})
		copy((*lists[i])[:len(old)], old)
		if text(f) != before {
			test.Errorf("list %d of %s shares memory", i, before)
		}
	}
	for i := range f.Loans {
		before := text(f)
		l := &f.Loans[i].Place.Proj
		old := slices.Clone(*l)
		build.Overwrite(*l, api.Proj{Kind: 9})
		copy(*l, old)
		if text(f) != before {
			test.Errorf("loan %d of %s shares memory", i, before)
		}
	}
}

// Rule 4 of the document: the facts of a body share no memory with it, nor with those of another call.
func TestNewMemory(test *testing.T) {
	random := rand.New(rand.NewSource(5))
	for range 300 {
		b := build.Arbitrary(5, random.Intn)
		// The places of all statements may share their projections.
		projs := at(0, 0).Proj
		for _, k := range b.Blocks {
			for i := range k.Stmts {
				if v := &k.Stmts[i].Rvalue; v.Kind == api.Borrow && slices.Equal(v.Place.Proj, projs) {
					v.Place.Proj = projs
				}
			}
		}
		before, want := bodies.Clone(b), text(model(b))
		f, _ := facts.Extract(b)
		g, _ := facts.Extract(b)
		checkApart(test, f)
		overwrite(f)
		if text(g) != want || !bodies.Equal(b, before) {
			test.Fatalf("the facts of %s share memory", show(before))
		}
	}
}

// Rule 4 of the document: arguments are not modified, and nothing behind the length of a slice is read.
func TestKeepsArguments(test *testing.T) {
	random := rand.New(rand.NewSource(6))
	for range 200 {
		b := build.Arbitrary(5, random.Intn)
		want := model(b)
		b.Blocks = build.Spare(b.Blocks, block(goTo(0), nop()))
		for i := range b.Blocks {
			k := &b.Blocks[i]
			k.Stmts = build.Spare(k.Stmts, assign(at(0), borrow(0, true, at(0))), dead(0))
			k.Term.Args = build.Spare(k.Term.Args, move(0))
			for j := range k.Stmts {
				v := &k.Stmts[j].Rvalue
				v.Place.Proj = build.Spare(v.Place.Proj, api.Proj{Kind: api.Deref})
				v.Args = build.Spare(v.Args, move(0))
			}
		}
		before := bodies.Clone(b)
		checkExtract(test, b, want)
		if !reflect.DeepEqual(b, before) {
			test.Fatalf("%s was modified", show(before))
		}
	}
	f := good()
	f.Loans = build.Spare(f.Loans, api.Loan{Point: -1})
	f.Loans[0].Place.Proj = build.Spare(f.Loans[0].Place.Proj, api.Proj{Kind: 5})
	for _, l := range []*[][2]int{&f.Edges, &f.Killed, &f.Invalid, &f.Live} {
		*l = build.Spare(*l, [2]int{-1, -1})
	}
	checkTable(test, f, 5, 3, api.OK)
	checkEqual(test, f, good(), true)
	checkEqual(test, facts.Clone(f), good(), true)
	if facts.Size(f) != 16 || text(f) != text(good()) || f.Live[:4][3] != [2]int{-1, -1} {
		test.Errorf("got %v", f)
	}
}

// Rule 7 of the document: a result depends on the arguments as they are at the time of the call.
func TestCallsAreSeparate(test *testing.T) {
	b := sample(block(leave(), assign(at(r), borrow(0, false, at(x))), assign(at(x), use(number(1)))))
	for range 2 {
		want := model(b)
		checkExtract(test, b, want)
		b.Blocks[0].Stmts[1] = assign(at(y), use(copyOf(r, star)))
		checkExtract(test, b, model(b))
		if text(want) == text(model(b)) {
			test.Error("the bodies do not differ")
		}
		b.Blocks[0].Stmts[1] = assign(at(x), use(number(1)))
	}
}

// Rule 6 of the document: the functions may be called concurrently, with the same arguments as well.
func TestConcurrentCalls(test *testing.T) {
	random := rand.New(rand.NewSource(7))
	var l []api.Body
	for range 20 {
		l = append(l, build.Arbitrary(5, random.Intn))
	}
	shared := good()
	var group sync.WaitGroup
	for range 8 {
		group.Go(func() {
			for _, b := range l {
				checkExtract(test, b, model(b))
			}
			checkTable(test, shared, 5, 3, api.OK)
			checkEqual(test, shared, facts.Clone(shared), true)
		})
	}
	group.Wait()
}

// P1 of the document: a body that is not valid, and tables with odd numbers, do no harm.
func TestOddInputs(test *testing.T) {
	random := rand.New(rand.NewSource(8))
	odd := func() int { return append([]int{0, 1, 2, 9}, extremes...)[random.Intn(4+len(extremes))] }
	for range 1000 {
		b := build.Arbitrary(4, random.Intn)
		k := &b.Blocks[random.Intn(len(b.Blocks))]
		switch random.Intn(4) {
		case 0:
			k.Term.Targets = append(k.Term.Targets, odd())
		case 1:
			k.Stmts = append(k.Stmts, assign(at(odd(), odd()), borrow(odd(), true, at(odd(), star))))
		case 2:
			k.Stmts = append(k.Stmts, dead(odd()), api.Stmt{Kind: odd(), Rvalue: api.Rvalue{Kind: odd()}})
		default:
			k.Term.Kind = odd()
		}
		f, e := facts.Extract(b)
		isValid := valid.Check(b) == api.OK
		if isValid != (e == api.OK) || !isValid && (e != api.ErrInvalid || facts.Size(f) != 0) {
			test.Errorf("Extract of %s: got %v, %v", show(b), f, e)
		}
	}
}

// many returns a body with one block, whose statements are given with their numbers.
func many(n int, stmt func(i int) api.Stmt) api.Body {
	b := sample(block(leave()))
	for i := range n {
		b.Blocks[0].Stmts = append(b.Blocks[0].Stmts, stmt(i))
	}
	return b
}

// checkSizes checks how many loans, killed and invalid a great body has.
func checkSizes(test *testing.T, b api.Body, loans, killed, invalid int) {
	test.Helper()
	f, e := facts.Extract(b)
	if e != api.OK || len(f.Loans) != loans || len(f.Killed) != killed || len(f.Invalid) != invalid {
		test.Errorf("got %d loans, %d killed, %d invalid, %v; want %d, %d, %d", len(f.Loans), len(f.Killed), len(f.Invalid), e, loans, killed, invalid)
	}
	if order := func(k, l [2]int) int { return slices.Compare(k[:], l[:]) }; !slices.IsSortedFunc(f.Invalid, order) || !slices.IsSortedFunc(f.Killed, order) {
		test.Error("the pairs are not in order")
	}
	if !slices.IsSortedFunc(f.Loans, func(k, l api.Loan) int { return cmp.Compare(k.Point, l.Point) }) {
		test.Error("the loans are not in order")
	}
}

// P1 of the document: great bodies do not take long, unless they have many facts.
func TestGreatBodies(test *testing.T) {
	const most = api.MaxCount
	// Each statement reads what all of the others lend, and writes another local.
	checkSizes(test, many(most, func(i int) api.Stmt {
		if i%2 == 0 {
			return assign(at(r), borrow(0, false, at(x)))
		}
		return assign(at(y), use(copyOf(x)))
	}), most/2+1, 0, 0)
	// Each statement writes a local by way of which all of the others lend, without a loan that is invalid.
	checkSizes(test, many(most, func(i int) api.Stmt {
		if i%2 == 0 {
			return assign(at(s), borrow(0, false, at(r, star)))
		}
		return dead(r)
	}), most/2+1, 0, 0)
	// There are many components, each of which is lent and written once.
	wide := many(most, func(i int) api.Stmt {
		if i < most/2 {
			return assign(at(r), borrow(0, false, at(t, i)))
		}
		return assign(at(t, i-most/2), use(number(1)))
	})
	wide.Types[pair].Fields = slices.Repeat([]int{integer}, most)
	checkSizes(test, wide, most/2, 0, most/2)
	// There are many blocks.
	tall := sample(slices.Repeat([]api.Block{block(goTo(0), assign(at(r), borrow(0, false, at(x))), assign(at(y), use(copyOf(x))))}, most)...)
	tall.Blocks[most-1].Term = drop(at(t), 0)
	checkSizes(test, tall, most, 0, 0)
	// A point with many operands has as many facts as one with one of them.
	busy := many(1000, func(i int) api.Stmt { return assign(at(m), borrow(0, true, at(x))) })
	busy.Blocks[0].Term = call(at(y), 0, slices.Repeat([]api.Operand{copyOf(x)}, most)...)
	checkSizes(test, busy, 1000, 0, 1000*1001)
	// A body may have many facts.
	half := many(4000, func(i int) api.Stmt {
		if i%2 == 0 {
			return assign(at(r), borrow(0, false, at(m, star)))
		}
		return assign(at(m), use(move(m)))
	})
	checkSizes(test, half, 2000, 2000*2000, 2000*2000)
}

// FuzzFacts compares the facts of bodies that are made of bytes with the model, and checks that a table that is changed is not equal.
func FuzzFacts(f *testing.F) {
	f.Add([]byte{})
	f.Add([]byte{1, 3, 6, 10, 30, 6, 1, 0, 2, 20, 31, 3})
	f.Add([]byte(text(good()) + text(good())))
	f.Fuzz(func(test *testing.T, choices []byte) {
		pick := build.Picker(choices)
		b := build.Arbitrary(4, pick)
		needValid(test, b)
		want := model(b)
		checkExtract(test, b, want)
		changed := spoiled(want, pick)
		points, regions := points.Count(b)+pick(3)-1, len(b.Regions)+pick(3)-1
		checkTable(test, changed, points, regions, modelCheck(changed, points, regions))
		checkEqual(test, changed, want, text(changed) == text(want))
	})
}
