package liveness_test

import (
	"fmt"
	"math"
	"math/rand"
	"reflect"
	"slices"
	"sync"
	"testing"

	"mirtower/api"
	"mirtower/bodies"
	"mirtower/build"
	"mirtower/liveness"
	"mirtower/points"
	"mirtower/regions"
	"mirtower/types"
	"mirtower/valid"
)

// star stands for a Deref in a list of projections, where any other number is the component of a Field.
const star = build.Star

// The regions of the sample body: a outlives b, b outlives c, d and e outlive each other, and f is on its own.
const (
	regA = iota
	regB
	regC
	regD
	regE
	regF
	regionsNum // how many there are
)

// The types of the sample body.
const (
	unit     = iota
	boolean  // bool
	integer  // int
	refA     // &'a int
	refB     // &'b int
	mutC     // &'c mut int
	pairB    // (int, &'b int)
	refDA    // &'d &'a int
	mixed    // (&'c mut int, (int, &'b int))
	mutE     // &'e mut (int, &'b int)
	plain    // (int, bool)
	refF     // &'f (int, bool)
	typesNum // how many there are
)

// The locals of the sample body.
const (
	u         = iota // unit
	p                // bool
	x                // int
	y                // int
	ra               // &'a int
	sa               // &'a int
	rb               // &'b int
	mc               // &'c mut int
	pb               // (int, &'b int)
	rr               // &'d &'a int
	mx               // (&'c mut int, (int, &'b int))
	me               // &'e mut (int, &'b int)
	pl               // (int, bool)
	rf               // &'f (int, bool)
	localsNum        // how many there are
)

// The functions of package build under short names.
var (
	at, ref, tuple                         = build.At, build.Ref, build.Tuple
	copyOf, move, number, truth, nothing   = build.CopyOf, build.Move, build.Number, build.Truth, build.Nothing
	use, borrow, unary, binary, makeTuple  = build.Use, build.Borrow, build.Unary, build.Binary, build.MakeTuple
	assign, dead, nop                      = build.Assign, build.Dead, build.Nop
	goTo, branch, call, drop, leave, block = build.Goto, build.Branch, build.Call, build.Drop, build.Leave, build.Block
)

// set returns a statement that defines a local of the type int and uses nothing.
func set(local int) api.Stmt { return assign(at(local), use(number(1))) }

// read returns a terminator that uses some locals, and defines the local u.
func read(target int, locals ...int) api.Term {
	t := call(at(u), target)
	for _, l := range locals {
		t.Args = append(t.Args, move(l))
	}
	return t
}

// sample returns a body with the sample's declarations and some blocks, in new memory.
func sample(blocks ...api.Block) api.Body {
	b := api.Body{
		Name:     "main",
		Regions:  []string{"a", "b", "c", "d", "e", "f"},
		Outlives: [][2]int{{regA, regB}, {regB, regC}, {regD, regE}, {regE, regD}},
		Types: []api.Type{
			{Kind: api.Unit}, {Kind: api.Bool}, {Kind: api.Int}, ref(false, regA, integer), ref(false, regB, integer), ref(true, regC, integer), tuple(integer, refB),
			ref(false, regD, refA), tuple(mutC, pairB), ref(true, regE, pairB), tuple(integer, boolean), ref(false, regF, plain),
		},
		Args:   2,
		Blocks: blocks,
	}
	for i, t := range []int{unit, boolean, integer, integer, refA, refA, refB, mutC, pairB, refDA, mixed, mutE, plain, refF} {
		b.Locals = append(b.Locals, api.Local{Name: fmt.Sprint("x", i), Type: t})
	}
	return b
}

// goodStmt is a valid statement of the sample body, what it uses, and what it defines or -1.
type goodStmt struct {
	stmt    api.Stmt
	uses    []int
	defines int
}

// goodStmts returns statements of all kinds.
func goodStmts() []goodStmt {
	return []goodStmt{
		{nop(), nil, -1},
		{dead(u), nil, u}, {dead(x), nil, x}, {dead(ra), nil, ra}, {dead(mc), nil, mc}, {dead(rf), nil, rf},
		// A constant uses nothing, not even the local 0 of its zero place.
		{assign(at(x), use(number(0))), nil, x},
		{assign(at(p), use(truth(1))), nil, p},
		{assign(at(u), use(nothing())), nil, u},
		{assign(at(u), use(copyOf(u))), []int{u}, u},
		{assign(at(x), use(copyOf(y))), []int{y}, x},
		{assign(at(y), use(move(x))), []int{x}, y},
		{assign(at(x), use(copyOf(x))), []int{x}, x},
		{assign(at(mc), use(move(mc))), []int{mc}, mc},
		{assign(at(rb), use(copyOf(ra))), []int{ra}, rb},
		{assign(at(ra), use(copyOf(sa))), []int{sa}, ra},
		{assign(at(x), use(copyOf(rr, star, star))), []int{rr}, x},
		{assign(at(sa), use(copyOf(rr, star))), []int{rr}, sa},
		{assign(at(mc), use(move(mx, 0))), []int{mx}, mc},
		{assign(at(x), use(copyOf(me, star, 1, star))), []int{me}, x},
		{assign(at(pb), use(move(mx, 1))), []int{mx}, pb},
		// A place with projections is used, not defined.
		{assign(at(pb, 0), use(number(2))), []int{pb}, -1},
		{assign(at(mc, star), use(number(2))), []int{mc}, -1},
		{assign(at(pb, 1), use(copyOf(ra))), []int{ra, pb}, -1},
		{assign(at(mx, 1, 0), use(copyOf(x))), []int{x, mx}, -1},
		{assign(at(me, star, 1), use(copyOf(me, star, 1))), []int{me}, -1},
		{assign(at(pl, 1), use(copyOf(rf, star, 1))), []int{pl, rf}, -1},
		{assign(at(mx, 0, star), use(copyOf(x))), []int{x, mx}, -1},
		// The local of the borrowed place is used, with projections or not.
		{assign(at(ra), borrow(regA, false, at(x))), []int{x}, ra},
		{assign(at(ra), borrow(regA, false, at(ra, star))), []int{ra}, ra},
		{assign(at(rb), borrow(regB, false, at(ra, star))), []int{ra}, rb},
		{assign(at(mc), borrow(regC, true, at(x))), []int{x}, mc},
		{assign(at(mc), borrow(regC, true, at(mx, 0, star))), []int{mx}, mc},
		{assign(at(mx, 0), borrow(regC, true, at(y))), []int{y, mx}, -1},
		{assign(at(me), borrow(regE, true, at(pb))), []int{pb}, me},
		{assign(at(rr), borrow(regD, false, at(sa))), []int{sa}, rr},
		{assign(at(rf), borrow(regF, false, at(pl))), []int{pl}, rf},
		{assign(at(x), unary(api.Neg, copyOf(ra, star))), []int{ra}, x},
		{assign(at(p), unary(api.Not, copyOf(p))), []int{p}, p},
		{assign(at(p), unary(api.Not, truth(0))), nil, p},
		{assign(at(x), binary(api.Add, copyOf(y), copyOf(x))), []int{x, y}, x},
		{assign(at(x), binary(api.Mul, copyOf(rb, star), number(4))), []int{rb}, x},
		{assign(at(p), binary(api.Eq, number(3), copyOf(sa, star))), []int{sa}, p},
		{assign(at(p), binary(api.Lt, copyOf(x), move(x))), []int{x}, p},
		{assign(at(pl, 1), binary(api.And, copyOf(p), copyOf(pl, 1))), []int{p, pl}, -1},
		{assign(at(x), binary(api.Sub, number(3), number(4))), nil, x},
		{assign(at(pb), makeTuple(copyOf(y), copyOf(rb))), []int{y, rb}, pb},
		{assign(at(pb), makeTuple(copyOf(pb, 0), copyOf(ra))), []int{ra, pb}, pb},
		{assign(at(mx), makeTuple(move(mc), copyOf(pb))), []int{mc, pb}, mx},
		{assign(at(me, star), makeTuple(number(1), copyOf(sa))), []int{sa, me}, -1},
		{assign(at(pl), makeTuple(number(1), truth(1))), nil, pl},
	}
}

// goodTerm is a valid terminator of the sample body without its targets, how many these are, what it uses, and what it defines or -1.
type goodTerm struct {
	term    api.Term
	targets int
	uses    []int
	defines int
}

// goodTerms returns terminators of all kinds.
func goodTerms() []goodTerm {
	return []goodTerm{
		{goTo(0), 1, nil, -1}, {goTo(0), 1, nil, -1}, {goTo(0), 1, nil, -1},
		{leave(), 0, nil, -1},
		{api.Term{Kind: api.Unreachable}, 0, nil, -1},
		{branch(truth(1), 0, 0), 2, nil, -1},
		{branch(copyOf(p), 0, 0), 2, []int{p}, -1},
		{branch(move(pl, 1), 0, 0), 2, []int{pl}, -1},
		{branch(copyOf(rf, star, 1), 0, 0), 2, []int{rf}, -1},
		{call(at(x), 0), 1, nil, x},
		{call(at(u), 0, number(1), truth(0), nothing()), 1, nil, u},
		{call(at(ra), 0, copyOf(x), move(mc), copyOf(ra), copyOf(rr, star)), 1, []int{x, ra, mc, rr}, ra},
		{call(at(me, star, 0), 0, copyOf(rb)), 1, []int{rb, me}, -1},
		{call(at(pb, 1), 0, copyOf(pb, 1), move(y), move(y)), 1, []int{y, pb}, -1},
		{call(at(mc), 0, move(me)), 1, []int{me}, mc},
		{drop(at(x), 0), 1, []int{x}, -1},
		{drop(at(mx, 1), 0), 1, []int{mx}, -1},
		{drop(at(u), 0), 1, []int{u}, -1},
	}
}

// arbitraryBody returns a valid body with the sample's declarations and up to most blocks, whose regions outlive each other in further ways.
func arbitraryBody(most int, pick func(int) int) api.Body {
	b := sample()
	stmts, terms := goodStmts(), goodTerms()
	n := 1 + pick(most)
	for range n {
		c := block(api.Term{})
		for range pick(4) {
			c.Stmts = append(c.Stmts, stmts[pick(len(stmts))].stmt)
		}
		t := terms[pick(len(terms))]
		c.Term = t.term
		c.Term.Targets = nil
		for range t.targets {
			c.Term.Targets = append(c.Term.Targets, pick(n))
		}
		b.Blocks = append(b.Blocks, c)
	}
	for range pick(4) {
		pair := [2]int{pick(regionsNum), pick(regionsNum)}
		if pair[0] != pair[1] && !slices.Contains(b.Outlives, pair) {
			b.Outlives = append(b.Outlives, pair)
		}
	}
	slices.SortFunc(b.Outlives, comparePairs)
	return b
}

// comparePairs compares two pairs by their first and then by their second numbers.
func comparePairs(v, w [2]int) int { return slices.Compare(v[:], w[:]) }

// model answers the questions of the chapter for a body, as the chapter says it.
type model struct{ b api.Body }

// operands adds the locals that operands use.
func operands(uses map[int]bool, l []api.Operand) {
	for _, o := range l {
		switch o.Kind {
		case api.Copy, api.Move:
			uses[o.Place.Local] = true
		}
	}
}

// effect returns what a point uses, and what it defines or -1.
func (m model) effect(point int) (map[int]bool, int) {
	uses := map[int]bool{}
	i, j, found := points.Locate(m.b, point)
	if !found {
		return uses, -1
	}
	place := func(l api.Place) int {
		if len(l.Proj) == 0 {
			return l.Local
		}
		uses[l.Local] = true
		return -1
	}
	if c := m.b.Blocks[i]; j < len(c.Stmts) {
		switch s := c.Stmts[j]; s.Kind {
		case api.Assign:
			operands(uses, s.Rvalue.Args)
			if s.Rvalue.Kind == api.Borrow {
				uses[s.Rvalue.Place.Local] = true
			}
			return uses, place(s.Place)
		case api.Dead:
			return uses, s.Local
		}
	} else if t := c.Term; t.Kind == api.If {
		operands(uses, t.Args)
	} else if t.Kind == api.Call {
		operands(uses, t.Args)
		return uses, place(t.Place)
	} else if t.Kind == api.Drop {
		uses[t.Place.Local] = true
	}
	return uses, -1
}

// live reports whether a local is live on entry of a point, by a search for the sequence of points of the chapter.
func (m model) live(local, point int) bool {
	seen := map[int]bool{point: true}
	work := []int{point}
	for len(work) > 0 {
		last := work[len(work)-1]
		work = work[:len(work)-1]
		uses, defined := m.effect(last)
		if uses[local] {
			return true
		}
		if defined == local {
			continue
		}
		for _, next := range points.Next(m.b, last) {
			if !seen[next] {
				seen[next] = true
				work = append(work, next)
			}
		}
	}
	return false
}

// mentions reports whether a type mentions a region.
func (m model) mentions(t, region int) bool {
	switch c := m.b.Types[t]; c.Kind {
	case api.Ref:
		return c.Region == region || m.mentions(c.Elem, region)
	case api.Tuple:
		return slices.ContainsFunc(c.Fields, func(f int) bool { return m.mentions(f, region) })
	}
	return false
}

// outlives returns a table that says which regions outlive which others.
func (m model) outlives() [][]bool {
	n := len(m.b.Regions)
	table := make([][]bool, n)
	for v := range table {
		table[v] = make([]bool, n)
		for w := range n {
			table[v][w] = v == w || slices.Contains(m.b.Outlives, [2]int{v, w})
		}
	}
	for by := range n {
		for v := range n {
			for w := range n {
				table[v][w] = table[v][w] || table[v][by] && table[by][w]
			}
		}
	}
	return table
}

// locals returns the live locals of all points.
func (m model) locals() [][]int {
	l := make([][]int, points.Count(m.b))
	for point := range l {
		for local := range m.b.Locals {
			if m.live(local, point) {
				l[point] = append(l[point], local)
			}
		}
	}
	return l
}

// regions returns the pairs of a region and a point at which it is live.
func (m model) regions() [][2]int {
	var l [][2]int
	live, table := m.locals(), m.outlives()
	for region := range m.b.Regions {
		for point, locals := range live {
			isLive := false
			for other := range m.b.Regions {
				isMentioned := slices.ContainsFunc(locals, func(local int) bool { return m.mentions(m.b.Locals[local].Type, other) })
				isLive = isLive || isMentioned && table[region][other]
			}
			if isLive {
				l = append(l, [2]int{region, point})
			}
		}
	}
	return l
}

// text returns a body as it may be printed.
func text(b api.Body) string {
	s := fmt.Sprintf("%+v", b.Blocks)
	return fmt.Sprintf("%d locals, outlives %v, %s", len(b.Locals), b.Outlives[:min(len(b.Outlives), 9)], s[:min(len(s), 1500)])
}

// checkUses checks a result of Uses.
func checkUses(t *testing.T, b api.Body, point int, want ...int) {
	t.Helper()
	if got := liveness.Uses(b, point); !slices.Equal(got, want) {
		t.Errorf("Uses of %d in %s: got %v, want %v", point, text(b), got, want)
	}
}

// checkDefines checks a result of Defines, where -1 stands for no local.
func checkDefines(t *testing.T, b api.Body, point, want int) {
	t.Helper()
	local, found := liveness.Defines(b, point)
	if local != max(want, 0) || found != (want >= 0) {
		t.Errorf("Defines of %d in %s: got %d, %v, want %d", point, text(b), local, found, want)
	}
}

// equalLists compares lists of lists.
func equalLists(l, m [][]int) bool { return slices.EqualFunc(l, m, slices.Equal[[]int]) }

// checkLocals checks the result of Locals.
func checkLocals(t *testing.T, b api.Body, want ...[]int) {
	t.Helper()
	if got := liveness.Locals(b); !equalLists(got, want) {
		t.Errorf("Locals of %s: got %v, want %v", text(b), got, want)
	}
}

// checkRegions checks the result of Regions for a valid body.
func checkRegions(t *testing.T, b api.Body, want ...[2]int) {
	t.Helper()
	if got, e := liveness.Regions(b); !slices.Equal(got, want) || e != api.OK {
		t.Errorf("Regions of %s: got %v, %v, want %v", text(b), got, e, want)
	}
}

// checkInvalid checks the result of Regions for a body that is not valid.
func checkInvalid(t *testing.T, b api.Body) {
	t.Helper()
	if got, e := liveness.Regions(b); len(got) > 0 || e != api.ErrInvalid {
		t.Errorf("Regions of %s, which is not valid: got %v, %v", text(b), got, e)
	}
}

// needValid ends a test if its body is not valid.
func needValid(t *testing.T, b api.Body) {
	t.Helper()
	if e := valid.Check(b); e != api.OK {
		t.Fatalf("%s is not valid: %v", text(b), e)
	}
}

// checkBody compares all results for a valid body with the model.
func checkBody(t *testing.T, b api.Body) {
	t.Helper()
	needValid(t, b)
	m := model{b}
	n := points.Count(b)
	for _, point := range append([]int{-2, -1, n, n + 1, math.MinInt, math.MaxInt}, count(n)...) {
		uses, defined := m.effect(point)
		var l []int
		for local := range b.Locals {
			if uses[local] {
				l = append(l, local)
			}
		}
		checkUses(t, b, point, l...)
		checkDefines(t, b, point, defined)
	}
	checkLocals(t, b, m.locals()...)
	checkRegions(t, b, m.regions()...)
}

// count returns the numbers from 0 to n-1.
func count(n int) []int {
	var l []int
	for i := range n {
		l = append(l, i)
	}
	return l
}

// P12.4: checkConsequences checks by the results alone what follows from a local or a region that is live.
func checkConsequences(t *testing.T, b api.Body) {
	t.Helper()
	live := liveness.Locals(b)
	for point, l := range live {
		uses := liveness.Uses(b, point)
		defined, defines := liveness.Defines(b, point)
		for local := range b.Locals {
			follows := slices.ContainsFunc(points.Next(b, point), func(next int) bool { return slices.Contains(live[next], local) })
			want := slices.Contains(uses, local) || !(defines && defined == local) && follows
			if slices.Contains(l, local) != want {
				t.Errorf("in %s, the local %d is live on entry of %d: %v", text(b), local, point, !want)
			}
		}
	}
	pairs, _ := liveness.Regions(b)
	relation, _ := regions.New(b.Outlives, len(b.Regions))
	for _, pair := range pairs {
		for region := range b.Regions {
			if relation.Outlives(region, pair[0]) && !slices.Contains(pairs, [2]int{region, pair[1]}) {
				t.Errorf("in %s, the region %d outlives %d, but is not live at %d", text(b), region, pair[0], pair[1])
			}
		}
	}
	for point, l := range live {
		for _, local := range l {
			for _, region := range types.Regions(b.Types, b.Locals[local].Type) {
				if !slices.Contains(pairs, [2]int{region, point}) {
					t.Errorf("in %s, the region %d of the live local %d is not live at %d", text(b), region, local, point)
				}
			}
		}
	}
}

// The example of the chapter.
func TestExample(t *testing.T) {
	b := sample(block(leave(), set(x), assign(at(y), use(copyOf(x)))))
	checkLocals(t, b, nil, []int{x}, nil)
	checkRegions(t, b)
	checkBody(t, b)
}

// P12.1: the uses and definitions of all kinds of statements.
func TestStmts(t *testing.T) {
	for _, c := range goodStmts() {
		b := sample(block(goTo(1), nop(), c.stmt), block(leave(), c.stmt))
		needValid(t, b)
		for _, point := range []int{1, 3} {
			checkUses(t, b, point, c.uses...)
			checkDefines(t, b, point, c.defines)
		}
		for _, point := range []int{0, 2, 4} {
			checkUses(t, b, point)
			checkDefines(t, b, point, -1)
		}
		checkBody(t, b)
	}
}

// P12.1: the uses and definitions of all kinds of terminators.
func TestTerms(t *testing.T) {
	for _, c := range goodTerms() {
		b := sample(block(goTo(1), nop()), block(c.term, set(x)), block(c.term))
		needValid(t, b)
		for _, point := range []int{3, 4} {
			checkUses(t, b, point, c.uses...)
			checkDefines(t, b, point, c.defines)
		}
		checkUses(t, b, 1)
		checkDefines(t, b, 1, -1)
		checkBody(t, b)
	}
}

// P12.1: numbers that are not points.
func TestNoPoint(t *testing.T) {
	all := assign(at(x), use(copyOf(x)))
	for _, b := range []api.Body{{}, sample(), sample(block(drop(at(x), 0))), sample(block(call(at(x), 0, copyOf(x)), all, all), block(drop(at(x), 0), all))} {
		n := points.Count(b)
		for _, point := range []int{-1, -2, n, n + 1, math.MinInt, math.MaxInt, math.MinInt32, math.MaxInt32 + 1} {
			checkUses(t, b, point)
			checkDefines(t, b, point, -1)
		}
	}
}

// P12.1: many uses of a point are distinct and in ascending order.
func TestManyUses(t *testing.T) {
	term := call(at(pb, 0), 0)
	var want []int
	for local := range localsNum {
		term.Args = append(term.Args, move(localsNum-1-local), number(3), move(localsNum-1-local))
		want = append(want, local)
	}
	b := sample(block(term))
	needValid(t, b)
	checkUses(t, b, 0, want...)
	checkDefines(t, b, 0, -1)
	b.Blocks[0].Term.Place = at(rr)
	checkUses(t, b, 0, want...)
	checkDefines(t, b, 0, rr)
	checkBody(t, b)
}

// P12.2: where locals are live within a block.
func TestLocalsInBlock(t *testing.T) {
	copyX, addX := assign(at(y), use(copyOf(x))), assign(at(x), binary(api.Add, copyOf(x), number(1)))
	live, not := []int{x}, []int(nil)
	for _, c := range []struct {
		stmts []api.Stmt
		term  api.Term
		want  [][]int
	}{
		{nil, leave(), [][]int{not}},
		{nil, drop(at(x), 1), [][]int{live}},
		{[]api.Stmt{nop(), nop()}, leave(), [][]int{not, not, not}},
		{[]api.Stmt{nop(), nop()}, drop(at(x), 1), [][]int{live, live, live}},
		{[]api.Stmt{copyX}, leave(), [][]int{live, not}},
		{[]api.Stmt{nop(), copyX, nop()}, leave(), [][]int{live, live, not, not}},
		{[]api.Stmt{copyX, nop(), copyX}, leave(), [][]int{live, live, live, not}},
		// A definition ends what is live before it, and so does Dead.
		{[]api.Stmt{copyX, nop(), set(x), nop(), copyX}, leave(), [][]int{live, not, not, live, live, not}},
		{[]api.Stmt{copyX, nop(), dead(x), nop(), copyX}, leave(), [][]int{live, not, not, live, live, not}},
		{[]api.Stmt{set(x), set(x), copyX}, leave(), [][]int{not, not, live, not}},
		{[]api.Stmt{dead(y), dead(x)}, drop(at(x), 1), [][]int{not, not, live}},
		// A point that uses a local and defines it uses it first.
		{[]api.Stmt{nop(), addX, nop()}, leave(), [][]int{live, live, not, not}},
		{[]api.Stmt{addX, addX}, drop(at(x), 1), [][]int{live, live, live}},
		{[]api.Stmt{set(x), addX, set(x)}, leave(), [][]int{not, live, not, not}},
		// A part that is written does not end it.
		{[]api.Stmt{assign(at(pb, 0), use(number(1)))}, drop(at(pb), 1), [][]int{{pb}, {pb}}},
		{[]api.Stmt{nop(), assign(at(mc, star), use(number(1)))}, leave(), [][]int{{mc}, {mc}, not}},
		{[]api.Stmt{assign(at(mc), borrow(regC, true, at(x))), assign(at(mc, star), use(copyOf(y)))}, leave(), [][]int{{x, y}, {y, mc}, not}},
		// Several locals at a time.
		{[]api.Stmt{assign(at(x), use(copyOf(y))), assign(at(y), use(copyOf(x))), assign(at(p), binary(api.Lt, copyOf(y), copyOf(x)))}, branch(copyOf(p), 1, 1), [][]int{{y}, {x}, {x, y}, {p}}},
		{[]api.Stmt{nop(), assign(at(x), use(number(1)))}, call(at(u), 1, move(mc), copyOf(x), move(u), copyOf(rb)), [][]int{{u, rb, mc}, {u, rb, mc}, {u, x, rb, mc}}},
	} {
		b := sample(block(c.term, c.stmts...), block(leave()))
		checkLocals(t, b, append(c.want, nil)...)
		checkBody(t, b)
		// A block before it, which is not reached, makes no difference.
		c.term.Targets = slices.Repeat([]int{2}, len(c.term.Targets))
		b = sample(block(leave(), copyX), block(c.term, c.stmts...), block(leave()))
		checkLocals(t, b, append(append([][]int{live, nil}, c.want...), nil)...)
	}
}

// P12.2: where locals are live in several blocks.
func TestLocalsBetweenBlocks(t *testing.T) {
	copyX := assign(at(y), use(copyOf(x)))
	addX := assign(at(x), binary(api.Add, copyOf(x), number(1)))
	live, not := []int{x}, []int(nil)
	for _, c := range []struct {
		blocks []api.Block
		want   [][]int
	}{
		// One after the other, in any order.
		{[]api.Block{block(goTo(1), set(x)), block(leave(), copyX)}, [][]int{not, live, live, not}},
		{[]api.Block{block(leave(), copyX), block(goTo(0), set(x))}, [][]int{live, not, not, live}},
		{[]api.Block{block(goTo(2), set(x)), block(leave(), copyX), block(goTo(1))}, [][]int{not, live, live, not, live}},
		{[]api.Block{block(goTo(1)), block(goTo(2)), block(goTo(3)), block(drop(at(x), 2))}, [][]int{live, live, live, live}},
		{[]api.Block{block(goTo(1), set(x)), block(leave(), set(x), copyX)}, [][]int{not, not, not, live, not}},
		{[]api.Block{block(goTo(1), copyX), block(leave(), dead(x), copyX)}, [][]int{live, not, not, live, not}},
		// A fork, one of whose ways uses the local.
		{[]api.Block{block(branch(truth(1), 1, 2), set(x)), block(leave()), block(leave(), nop(), copyX)}, [][]int{not, live, not, live, live, not}},
		{[]api.Block{block(branch(truth(1), 1, 2), nop()), block(leave(), set(x)), block(leave(), dead(x))}, [][]int{not, not, not, not, not, not}},
		{[]api.Block{block(branch(truth(1), 1, 1), nop()), block(leave(), copyX)}, [][]int{live, live, live, not}},
		// A join, one of whose ways defines the local.
		{[]api.Block{block(branch(truth(1), 1, 2)), block(goTo(3), set(x)), block(goTo(3)), block(leave(), copyX)}, [][]int{live, not, live, live, live, not}},
		// Loops.
		{[]api.Block{block(goTo(0), nop(), copyX, nop())}, [][]int{live, live, live, live}},
		{[]api.Block{block(goTo(0), copyX, nop(), set(x))}, [][]int{live, not, not, live}},
		{[]api.Block{block(goTo(0), set(x), copyX, nop())}, [][]int{not, live, not, not}},
		{[]api.Block{block(goTo(0), nop(), addX)}, [][]int{live, live, live}},
		{[]api.Block{block(goTo(1), set(x)), block(branch(truth(1), 1, 2), addX), block(leave())}, [][]int{not, live, live, live, not}},
		{[]api.Block{block(goTo(1), copyX), block(branch(truth(1), 2, 0)), block(goTo(1))}, [][]int{live, live, live, live}},
		{[]api.Block{block(goTo(1), copyX), block(goTo(2)), block(goTo(1))}, [][]int{live, not, not, not}},
		{[]api.Block{block(goTo(0))}, [][]int{not}},
		{[]api.Block{block(drop(at(x), 0))}, [][]int{live}},
		// A terminator that defines the local does so before what follows.
		{[]api.Block{block(call(at(x), 1), nop()), block(leave(), copyX)}, [][]int{not, not, live, not}},
		{[]api.Block{block(call(at(x), 1, copyOf(x)), nop()), block(leave(), copyX)}, [][]int{live, live, live, not}},
		{[]api.Block{block(call(at(x), 0), nop(), copyX, nop())}, [][]int{live, live, not, not}},
		{[]api.Block{block(call(at(x), 1)), block(drop(at(x), 0))}, [][]int{not, live}},
		// A block that is not reached, and one that leads into those that are.
		{[]api.Block{block(leave(), set(x)), block(leave(), copyX)}, [][]int{not, not, live, not}},
		{[]api.Block{block(leave(), nop(), copyX), block(goTo(0), nop())}, [][]int{live, live, not, live, live}},
	} {
		b := sample(c.blocks...)
		checkLocals(t, b, c.want...)
		checkBody(t, b)
		checkConsequences(t, b)
	}
}

// pairs returns the pairs of a region and a point, given the regions at each point.
func pairs(liveAt ...[]int) [][2]int {
	var l [][2]int
	for region := range regionsNum {
		for point, live := range liveAt {
			if slices.Contains(live, region) {
				l = append(l, [2]int{region, point})
			}
		}
	}
	return l
}

// P12.3: the regions of live locals and those that outlive them.
func TestRegions(t *testing.T) {
	ab, abc, de := []int{regA, regB}, []int{regA, regB, regC}, []int{regD, regE}
	for _, c := range []struct {
		b    api.Body
		want [][2]int
	}{
		{sample(block(leave())), nil},
		// Locals whose types mention no region.
		{sample(block(read(1, u, p, x, y, pl)), block(leave())), nil},
		// Each type that mentions one.
		{sample(block(read(1, ra)), block(leave())), pairs([]int{regA})},
		{sample(block(read(1, rb)), block(leave())), pairs(ab)},
		{sample(block(read(1, mc)), block(leave())), pairs(abc)},
		{sample(block(read(1, pb)), block(leave())), pairs(ab)},
		{sample(block(read(1, rr)), block(leave())), pairs([]int{regA, regD, regE})},
		{sample(block(read(1, mx)), block(leave())), pairs(abc)},
		{sample(block(read(1, me)), block(leave())), pairs(append(de, ab...))},
		{sample(block(read(1, rf)), block(leave())), pairs([]int{regF})},
		{sample(block(read(1, rf, me, ra)), block(leave())), pairs([]int{regA, regB, regD, regE, regF})},
		// A local that is only defined or borrowed into is not live.
		{sample(block(leave(), assign(at(ra), borrow(regA, false, at(x))))), nil},
		{sample(block(leave(), nop(), assign(at(rb), use(copyOf(ra))), nop())), pairs([]int{regA}, []int{regA})},
		// A region is live as long as one of the locals that mention it, and in order of the regions before that of the points.
		{sample(block(read(1, ra), assign(at(x), use(copyOf(sa, star))), nop()), block(leave())), pairs([]int{regA}, []int{regA}, []int{regA})},
		{sample(block(read(1, sa), assign(at(ra), use(copyOf(sa))), assign(at(x), use(copyOf(ra, star))), assign(at(sa), borrow(regA, false, at(x))), nop()), block(leave())), pairs([]int{regA}, []int{regA}, nil, []int{regA}, []int{regA})},
		{sample(block(read(1, rf), dead(rb), assign(at(x), use(copyOf(rr, star, star))), dead(rf), assign(at(rf), borrow(regF, false, at(pl)))), block(leave())), pairs([]int{regA, regD, regE}, []int{regA, regD, regE}, nil, nil, []int{regF})},
		// Regions in several blocks.
		{sample(block(goTo(2), nop()), block(leave(), assign(at(x), use(copyOf(ra, star)))), block(branch(truth(0), 1, 3), dead(rf)), block(read(0, rf))), pairs([]int{regA}, []int{regA}, []int{regA}, nil, []int{regA}, []int{regA, regF}, []int{regA, regF})},
		{sample(block(call(at(mc), 1), nop()), block(goTo(1), assign(at(mc, star), use(number(1))))), pairs(nil, nil, abc, abc)},
	} {
		checkRegions(t, c.b, c.want...)
		checkBody(t, c.b)
		checkConsequences(t, c.b)
	}
}

// P12.3: which regions outlive which, by ways of several pairs and around.
func TestOutlives(t *testing.T) {
	b := sample(block(read(1, rf)), block(leave()))
	for _, c := range []struct {
		outlives [][2]int
		live     []int
	}{
		{nil, []int{regF}},
		{[][2]int{{regF, regA}, {regF, regE}}, []int{regF}},
		{[][2]int{{regA, regF}}, []int{regA, regF}},
		{[][2]int{{regA, regF}, {regB, regA}, {regC, regB}, {regD, regC}, {regE, regD}}, count(regionsNum)},
		{[][2]int{{regA, regB}, {regB, regC}, {regC, regD}, {regD, regE}, {regE, regF}}, count(regionsNum)},
		{[][2]int{{regA, regC}, {regB, regF}, {regC, regE}, {regE, regA}, {regF, regB}}, []int{regB, regF}},
		{[][2]int{{regA, regC}, {regB, regC}, {regC, regF}, {regF, regD}}, []int{regA, regB, regC, regF}},
	} {
		b.Outlives = c.outlives
		slices.SortFunc(b.Outlives, comparePairs)
		checkRegions(t, b, pairs(c.live)...)
		checkBody(t, b)
		checkConsequences(t, b)
	}
}

// P12.3: a body that is not valid, by its declarations, a statement or a terminator.
func TestInvalid(t *testing.T) {
	for i, change := range []func(*api.Body){
		func(b *api.Body) { b.Name = "" },
		func(b *api.Body) { b.Regions[1] = "a" },
		func(b *api.Body) { b.Regions = b.Regions[:2] },
		func(b *api.Body) { b.Outlives[0][0] = 9 },
		func(b *api.Body) { b.Outlives[0][1] = regA },
		func(b *api.Body) { b.Types[refA].Region = regionsNum },
		func(b *api.Body) { b.Types[refA].Elem = -1 },
		func(b *api.Body) { b.Locals[x].Type = typesNum },
		func(b *api.Body) { b.Locals[x].Name = "x y" },
		func(b *api.Body) { b.Args = -1 },
		func(b *api.Body) { b.Args = localsNum + 1 },
		func(b *api.Body) { b.Blocks = nil },
		func(b *api.Body) { b.Blocks[0].Stmts[0].Kind = 3 },
		func(b *api.Body) { b.Blocks[0].Stmts[0].Place.Local = localsNum },
		func(b *api.Body) { b.Blocks[0].Stmts[0].Place.Local = -1 },
		func(b *api.Body) { b.Blocks[0].Stmts[0].Rvalue.Kind = api.Borrow },
		func(b *api.Body) { b.Blocks[0].Stmts[0].Rvalue.Args[0].Kind = api.ConstBool },
		func(b *api.Body) { b.Blocks[0].Term.Targets[0] = 2 },
		func(b *api.Body) { b.Blocks[0].Term.Targets = nil },
		func(b *api.Body) { b.Blocks[0].Term.Args[0].Kind = api.Copy },
		func(b *api.Body) { b.Blocks[1].Term.Kind = 6 },
		func(b *api.Body) { b.Blocks[1].Term.Name = "g" },
	} {
		b := sample(block(read(1, mc), set(x), assign(at(ra), borrow(regA, false, at(x)))), block(leave(), assign(at(y), use(copyOf(ra, star)))))
		checkBody(t, b)
		change(&b)
		if valid.Check(b) == api.OK {
			t.Errorf("the change %d leaves the body valid", i)
		}
		checkInvalid(t, b)
	}
	checkInvalid(t, api.Body{})
	checkInvalid(t, api.Body{Blocks: []api.Block{block(leave())}})
	checkRegions(t, api.Body{Name: "f", Blocks: []api.Block{block(leave())}})
	checkBody(t, api.Body{Name: "f", Blocks: []api.Block{block(leave())}})
}

// P12.1 to P12.4: arbitrary bodies, compared with the model.
func TestAgainstModel(t *testing.T) {
	r := rand.New(rand.NewSource(1))
	live, not, regionsLive := 0, 0, 0
	for range 1500 {
		b := arbitraryBody(6, r.Intn)
		checkBody(t, b)
		for _, l := range liveness.Locals(b) {
			live += len(l)
			not += localsNum - len(l)
		}
		l, _ := liveness.Regions(b)
		regionsLive += len(l)
	}
	if min(live, not, regionsLive) < 10000 {
		t.Errorf("%d locals and %d regions live, %d locals not", live, regionsLive, not)
	}
	for range 300 {
		checkConsequences(t, arbitraryBody(8, r.Intn))
	}
	for range 20 {
		b := arbitraryBody(60, r.Intn)
		checkBody(t, b)
		checkConsequences(t, b)
	}
}

// odd is a list of numbers that few fields may have.
func odd() []int {
	return []int{0, 1, 2, 3, 4, 5, 6, 9, -1, -2, localsNum, typesNum, math.MinInt, math.MaxInt, 1 << 32}
}

// broken returns a body some of whose numbers are changed to odd ones.
func broken(b api.Body, pick func(int) int) api.Body {
	b = bodies.Clone(b)
	some := func() int { return odd()[pick(len(odd()))] }
	for range 1 + pick(4) {
		c := &b.Blocks[pick(len(b.Blocks))]
		switch pick(9) {
		case 0:
			c.Term.Kind = some()
		case 1:
			c.Term.Targets = append(c.Term.Targets, some(), some())
		case 2:
			c.Term.Place = at(some(), max(some(), star))
		case 3:
			c.Term.Args = append(c.Term.Args, api.Operand{Kind: some(), Place: at(some())})
		case 4:
			b.Locals = b.Locals[:pick(len(b.Locals)+1)]
		case 5:
			b.Types[pick(len(b.Types))] = api.Type{Kind: some(), Region: some(), Elem: some(), Fields: []int{some(), some()}}
		default:
			s := api.Stmt{Kind: some(), Local: some(), Place: at(some(), max(some(), star))}
			s.Rvalue = api.Rvalue{Kind: some(), Op: some(), Region: some(), Place: at(some()), Args: []api.Operand{{Kind: some(), Place: at(some())}}}
			c.Stmts = append(c.Stmts, s)
		}
	}
	return b
}

// P1 of the document: a body that is not valid is not refused by Uses, Defines and Locals, and does not harm them.
func TestBrokenBodies(t *testing.T) {
	r := rand.New(rand.NewSource(3))
	invalid := 0
	for range 2000 {
		b := broken(arbitraryBody(5, r.Intn), r.Intn)
		if l := liveness.Locals(b); len(l) != points.Count(b) {
			t.Errorf("%d lists for %s", len(l), text(b))
		}
		for point := range points.Count(b) {
			liveness.Uses(b, point)
			liveness.Defines(b, point)
		}
		if valid.Check(b) != api.OK {
			invalid++
			checkInvalid(t, b)
		} else {
			checkBody(t, b)
		}
	}
	if invalid < 1000 {
		t.Errorf("only %d bodies are not valid", invalid)
	}
	if l := liveness.Locals(api.Body{}); len(l) > 0 {
		t.Errorf("Locals of a body without blocks: %v", l)
	}
}

// Rule 4 of the document: arguments are not modified, and nothing behind the length of a slice is read.
func TestKeepsArguments(t *testing.T) {
	r := rand.New(rand.NewSource(4))
	for range 100 {
		b := arbitraryBody(5, r.Intn)
		want := bodies.Clone(b)
		// What is behind the lengths would use all locals.
		b.Blocks = append(b.Blocks, block(read(0, count(localsNum)...)))[:len(b.Blocks)]
		for i := range b.Blocks {
			c := &b.Blocks[i]
			c.Stmts = append(c.Stmts, assign(at(ra), use(copyOf(sa))))[:len(c.Stmts)]
			c.Term.Targets = append(c.Term.Targets, 0, 1)[:len(c.Term.Targets)]
			c.Term.Args = append(c.Term.Args, move(mc))[:len(c.Term.Args)]
			for j := range c.Stmts {
				v := &c.Stmts[j].Rvalue
				v.Args = append(v.Args, move(mc))[:len(v.Args)]
				l := &c.Stmts[j].Place
				l.Proj = append(l.Proj, api.Proj{})[:len(l.Proj)]
			}
		}
		b.Outlives = append(b.Outlives, [2]int{regF, regA})[:len(b.Outlives)]
		before := bodies.Clone(b)
		checkBody(t, b)
		checkConsequences(t, b)
		if !reflect.DeepEqual(before, b) {
			t.Fatalf("%s was modified", text(before))
		}
		checkLocals(t, b, liveness.Locals(want)...)
		pairs, _ := liveness.Regions(want)
		checkRegions(t, b, pairs...)
	}
}

// Rule 4 of the document: results share no memory with each other, nor their lists among themselves.
func TestNewMemory(t *testing.T) {
	b := sample(block(read(1, x, rb, mx), nop(), nop()), block(branch(copyOf(p), 0, 2)), block(drop(at(me), 1)))
	before := bodies.Clone(b)
	uses, locals := liveness.Uses(b, 2), liveness.Locals(b)
	pairs, _ := liveness.Regions(b)
	wantUses, wantPairs := slices.Clone(uses), slices.Clone(pairs)
	var wantLocals [][]int
	for _, l := range locals {
		wantLocals = append(wantLocals, slices.Clone(l))
	}
	for point := range locals {
		got := liveness.Locals(b)
		build.Overwrite(got[point], 77)
		for other, l := range got {
			if other != point && !slices.Equal(l, wantLocals[other]) {
				t.Errorf("the lists of %d and %d share memory", point, other)
			}
		}
		build.Overwrite(got, nil)
	}
	build.Overwrite(liveness.Uses(b, 2), 77)
	again, _ := liveness.Regions(b)
	build.Overwrite(again, [2]int{77, 77})
	if !slices.Equal(uses, wantUses) || !equalLists(locals, wantLocals) || !slices.Equal(pairs, wantPairs) {
		t.Error("results of separate calls share memory")
	}
	build.Overwrite(uses, 77)
	build.Overwrite(locals, nil)
	build.Overwrite(pairs, [2]int{77, 77})
	if !reflect.DeepEqual(b, before) {
		t.Error("a result shares memory with the body")
	}
	checkBody(t, b)
}

// Rule 7 of the document: a result depends on the body as it is at the time of the call.
func TestCallsAreSeparate(t *testing.T) {
	b := sample(block(goTo(1), nop()), block(read(2, ra)), block(leave()))
	checkLocals(t, b, []int{ra}, []int{ra}, []int{ra}, nil)
	checkRegions(t, b, pairs([]int{regA}, []int{regA}, []int{regA})...)
	b.Blocks[0].Stmts[0] = dead(ra)
	checkLocals(t, b, nil, []int{ra}, []int{ra}, nil)
	checkRegions(t, b, pairs(nil, []int{regA}, []int{regA})...)
	b.Blocks[0].Term = leave()
	b.Outlives = append(b.Outlives[:2:2], [2]int{regC, regA})
	checkLocals(t, b, nil, nil, []int{ra}, nil)
	checkRegions(t, b, pairs(nil, nil, []int{regA, regB, regC})...)
	checkBody(t, b)
}

// Rule 6 of the document: the functions may be called concurrently, with the same body as well.
func TestConcurrentCalls(t *testing.T) {
	r := rand.New(rand.NewSource(5))
	var l []api.Body
	for range 30 {
		l = append(l, arbitraryBody(5, r.Intn))
	}
	var group sync.WaitGroup
	for range 8 {
		group.Go(func() {
			for _, b := range l {
				if e := valid.Check(b); e != api.OK {
					t.Errorf("%s is not valid: %v", text(b), e)
					continue
				}
				checkBody(t, b)
				checkConsequences(t, b)
			}
		})
	}
	group.Wait()
}

// Rule 4 of the document: an empty slice may be nil or not.
func TestEmptySlices(t *testing.T) {
	r := rand.New(rand.NewSource(6))
	for range 50 {
		b := arbitraryBody(4, r.Intn)
		checkBody(t, build.Emptied(b, true))
		checkBody(t, build.Emptied(b, false))
	}
	for _, isNil := range []bool{true, false} {
		// A place without projections is defined, not used.
		b := build.Emptied(sample(block(leave(), set(x))), isNil)
		checkUses(t, b, 0)
		checkDefines(t, b, 0, x)
	}
}

// many returns a valid body with n regions, each of which outlives the next one if they form a chain, and with n locals, each of which is a reference with a region of its own.
func many(n int, chain bool) api.Body {
	b := api.Body{Name: "f", Types: []api.Type{{Kind: api.Int}}}
	for i := range n {
		b.Regions = append(b.Regions, fmt.Sprint("r", i))
		b.Types = append(b.Types, api.Type{Kind: api.Ref, Region: i, Elem: 0})
		b.Locals = append(b.Locals, api.Local{Name: fmt.Sprint("x", i), Type: i + 1})
		if chain && i > 0 {
			b.Outlives = append(b.Outlives, [2]int{i - 1, i})
		}
	}
	return b
}

// checkSize checks how many locals and pairs of a region are live in a great body.
func checkSize(t *testing.T, b api.Body, locals, pairs int) {
	t.Helper()
	needValid(t, b)
	n := 0
	for _, l := range liveness.Locals(b) {
		n += len(l)
	}
	if n != locals {
		t.Errorf("got %d live locals, want %d", n, locals)
	}
	if l, e := liveness.Regions(b); len(l) != pairs || e != api.OK || !slices.IsSortedFunc(l, comparePairs) {
		t.Errorf("got %d pairs of a live region, %v, want %d", len(l), e, pairs)
	}
}

// P1 of the document: bodies with many points or blocks do not take long.
func TestGreatBodies(t *testing.T) {
	const n = api.MaxCount
	// A block with many statements, on whose entry each local is live.
	b := sample(block(read(1, x, ra, mc), slices.Repeat([]api.Stmt{nop()}, n)...), block(leave()))
	checkSize(t, b, 3*(n+1), 3*(n+1))
	// One with many uses, and one with many definitions.
	b.Blocks[0] = block(leave(), slices.Repeat([]api.Stmt{assign(at(y), use(copyOf(ra, star)))}, n)...)
	checkSize(t, b, n, n)
	b.Blocks[0] = block(goTo(1), slices.Repeat([]api.Stmt{dead(sa), assign(at(ra), use(copyOf(sa)))}, n/2)...)
	checkSize(t, b, n/2, n/2)

	// A chain of blocks that leads backwards, and one that leads onward.
	b = sample(make([]api.Block, n)...)
	for i := range n {
		b.Blocks[i].Term = goTo(max(i-1, 0))
	}
	b.Blocks[0].Term = read(0, ra)
	checkSize(t, b, n, n)
	for i := range n {
		b.Blocks[i].Term = goTo(min(i+1, n-1))
	}
	b.Blocks[n-1].Term = read(0, ra)
	checkSize(t, b, n, n)

	// Many blocks that lead to a single one, and many that a single one leads to by way of others.
	for i := range n {
		b.Blocks[i].Term = branch(truth(1), 0, 0)
	}
	b.Blocks[0].Term = read(1, ra)
	checkSize(t, b, n, n)
	for i := range n {
		b.Blocks[i].Term = branch(truth(1), min(2*i+1, n-1), min(2*i+2, n-1))
	}
	b.Blocks[n-1].Term = read(0, ra)
	checkSize(t, b, n, n)
}

// P1 of the document: bodies with many locals or regions do not take long.
func TestManyLocals(t *testing.T) {
	// Many locals that are live at a single point, each with a region of its own.
	const n = 30000
	b := many(n, true)
	b.Blocks = []api.Block{block(read(1, count(n)...)), block(leave())}
	for i := range b.Blocks[0].Term.Args {
		b.Blocks[0].Term.Args[i].Kind = api.Copy
	}
	checkSize(t, b, n, n)
	// The last one is live alone, but all regions outlive its region.
	b.Blocks[0].Term.Args = []api.Operand{copyOf(n - 1)}
	checkSize(t, b, 1, n)

	// One after the other is live.
	const steps = 2000
	b = many(steps, true)
	b.Blocks = []api.Block{block(leave())}
	for i := range steps - 1 {
		b.Blocks[0].Stmts = append(b.Blocks[0].Stmts, assign(at(i+1), borrow(i+1, false, at(i, star))))
	}
	checkSize(t, b, steps-1, (steps-1)*steps/2)

	// Many locals of one type that are live at many points.
	const locals, stmts = 1000, 3000
	b = many(1, false)
	b.Locals = nil
	for i := range locals {
		b.Locals = append(b.Locals, api.Local{Name: fmt.Sprint("x", i), Type: 1})
	}
	b.Blocks = []api.Block{block(read(0, count(locals)...), slices.Repeat([]api.Stmt{nop()}, stmts)...)}
	checkSize(t, b, locals*(stmts+1), stmts+1)
}

// FuzzLiveness compares bodies that are made of bytes with the model.
func FuzzLiveness(f *testing.F) {
	f.Add([]byte{})
	f.Add([]byte{1, 3, 6, 10, 30, 6, 1, 0, 2, 20, 31, 3})
	f.Add([]byte(fmt.Sprint(sample())))
	f.Fuzz(func(t *testing.T, choices []byte) {
		pick := build.Picker(choices)
		b := arbitraryBody(8, pick)
		checkBody(t, b)
		checkConsequences(t, b)
		liveness.Locals(broken(b, pick))
	})
}
