package conflict_test

import (
	"fmt"
	"math"
	"math/rand"
	"reflect"
	"slices"
	"strings"
	"sync"
	"testing"

	"mirtower/api"
	"mirtower/bodies"
	"mirtower/build"
	"mirtower/conflict"
	"mirtower/points"
	"mirtower/valid"
)

// star stands for a Deref in a list of projections, where any other number is the component of a Field.
const star = build.Star

// The types of the sample body.
const (
	unit    = iota
	boolean // bool
	integer // int
	refA    // &'a int
	mutA    // &'a mut int
	refB    // &'b int
	pairB   // (int, &'b int)
	flags   // (bool, int)
	mixed   // (&'a mut int, (int, &'b int))
	mutB    // &'b mut (&'a mut int, (int, &'b int))
	refRef  // &'b &'a int
	twice   // ((bool, int), (bool, int))
)

// The locals of the sample body.
const (
	u         = iota // unit
	p                // bool
	x                // int
	y                // int
	ra               // &'a int
	sa               // &'a int
	ma               // &'a mut int
	pb               // (int, &'b int)
	fl               // (bool, int)
	mx               // (&'a mut int, (int, &'b int))
	mb               // &'b mut (&'a mut int, (int, &'b int))
	rr               // &'b &'a int
	tw               // ((bool, int), (bool, int))
	localsNum        // how many there are
)

// extremes are numbers that are no points of any small body.
var extremes = []int{-1, -2, math.MinInt, math.MaxInt, math.MinInt32, math.MaxInt32, 1 << 17, 1 << 32, -1 << 32}

// The functions of package build under short names.
var (
	at, ref, tuple                         = build.At, build.Ref, build.Tuple
	copyOf, move, number, truth, nothing   = build.CopyOf, build.Move, build.Number, build.Truth, build.Nothing
	use, borrow, unary, binary, makeTuple  = build.Use, build.Borrow, build.Unary, build.Binary, build.MakeTuple
	assign, dead, nop                      = build.Assign, build.Dead, build.Nop
	goTo, branch, call, drop, leave, block = build.Goto, build.Branch, build.Call, build.Drop, build.Leave, build.Block
)

// sample returns a body with the sample's declarations and some blocks, in new memory.
func sample(blocks ...api.Block) api.Body {
	b := api.Body{
		Name:     "main",
		Regions:  []string{"a", "b"},
		Outlives: [][2]int{{1, 0}},
		Types: []api.Type{
			{Kind: api.Unit}, {Kind: api.Bool}, {Kind: api.Int}, ref(false, 0, integer), ref(true, 0, integer), ref(false, 1, integer), tuple(integer, refB),
			tuple(boolean, integer), tuple(mutA, pairB), ref(true, 1, mixed), ref(false, 1, refA), tuple(flags, flags),
		},
		Args:   2,
		Blocks: blocks,
	}
	for i, t := range []int{unit, boolean, integer, integer, refA, refA, mutA, pairB, flags, mixed, mutB, refRef, twice} {
		b.Locals = append(b.Locals, api.Local{Name: fmt.Sprint("x", i), Type: t})
	}
	return b
}

// deepRead, deepWrite and shallowWrite return accesses.
func deepRead(local int, projs ...int) conflict.Access {
	return conflict.Access{Place: at(local, projs...), Deep: true}
}

func deepWrite(local int, projs ...int) conflict.Access {
	return conflict.Access{Place: at(local, projs...), Write: true, Deep: true}
}

func shallowWrite(local int, projs ...int) conflict.Access {
	return conflict.Access{Place: at(local, projs...), Write: true}
}

// list returns accesses.
func list(l ...conflict.Access) []conflict.Access { return l }

// goodStmt is a valid statement of the sample body and its accesses.
type goodStmt struct {
	stmt api.Stmt
	want []conflict.Access
}

// goodStmts returns statements of all kinds.
func goodStmts() []goodStmt {
	return []goodStmt{
		{nop(), nil},
		{dead(u), list(shallowWrite(u))}, {dead(x), list(shallowWrite(x))}, {dead(mb), list(shallowWrite(mb))}, {dead(tw), list(shallowWrite(tw))},
		// A constant has no access, not even to the local 0 of its zero place.
		{assign(at(x), use(number(3))), list(shallowWrite(x))},
		{assign(at(p), use(truth(1))), list(shallowWrite(p))},
		{assign(at(u), use(nothing())), list(shallowWrite(u))},
		{assign(at(x), use(copyOf(y))), list(deepRead(y), shallowWrite(x))},
		{assign(at(y), use(move(x))), list(deepWrite(x), shallowWrite(y))},
		{assign(at(x), use(copyOf(x))), list(deepRead(x), shallowWrite(x))},
		{assign(at(ma), use(move(ma))), list(deepWrite(ma), shallowWrite(ma))},
		{assign(at(u), use(copyOf(u))), list(deepRead(u), shallowWrite(u))},
		{assign(at(x), use(copyOf(ra, star))), list(deepRead(ra, star), shallowWrite(x))},
		{assign(at(sa), use(copyOf(rr, star))), list(deepRead(rr, star), shallowWrite(sa))},
		{assign(at(x), use(copyOf(rr, star, star))), list(deepRead(rr, star, star), shallowWrite(x))},
		{assign(at(ma), use(move(mx, 0))), list(deepWrite(mx, 0), shallowWrite(ma))},
		{assign(at(ma, star), use(copyOf(fl, 1))), list(deepRead(fl, 1), shallowWrite(ma, star))},
		{assign(at(mb, star, 1), use(move(pb))), list(deepWrite(pb), shallowWrite(mb, star, 1))},
		{assign(at(mb, star, 0, star), use(number(4))), list(shallowWrite(mb, star, 0, star))},
		{assign(at(tw, 1, 0), use(copyOf(tw, 0, 0))), list(deepRead(tw, 0, 0), shallowWrite(tw, 1, 0))},
		{assign(at(pb), use(copyOf(mb, star, 1))), list(deepRead(mb, star, 1), shallowWrite(pb))},
		// A mutable borrow is a write of the borrowed place, and another one is a read.
		{assign(at(ra), borrow(0, false, at(x))), list(deepRead(x), shallowWrite(ra))},
		{assign(at(ma), borrow(0, true, at(x))), list(deepWrite(x), shallowWrite(ma))},
		{assign(at(ra), borrow(0, false, at(ra, star))), list(deepRead(ra, star), shallowWrite(ra))},
		{assign(at(ma), borrow(0, true, at(mb, star, 0, star))), list(deepWrite(mb, star, 0, star), shallowWrite(ma))},
		{assign(at(mx, 0), borrow(0, true, at(tw, 1, 1))), list(deepWrite(tw, 1, 1), shallowWrite(mx, 0))},
		{assign(at(mb), borrow(1, true, at(mx))), list(deepWrite(mx), shallowWrite(mb))},
		{assign(at(mb, star, 1, 1), borrow(1, false, at(mb, star, 1, 0))), list(deepRead(mb, star, 1, 0), shallowWrite(mb, star, 1, 1))},
		{assign(at(rr), borrow(1, false, at(sa))), list(deepRead(sa), shallowWrite(rr))},
		{assign(at(x), unary(api.Neg, copyOf(ma, star))), list(deepRead(ma, star), shallowWrite(x))},
		{assign(at(p), unary(api.Not, move(fl, 0))), list(deepWrite(fl, 0), shallowWrite(p))},
		{assign(at(p), unary(api.Not, truth(0))), list(shallowWrite(p))},
		// Operands are in order, and each has an access of its own.
		{assign(at(x), binary(api.Add, copyOf(y), move(x))), list(deepRead(y), deepWrite(x), shallowWrite(x))},
		{assign(at(x), binary(api.Sub, move(x), copyOf(y))), list(deepWrite(x), deepRead(y), shallowWrite(x))},
		{assign(at(x), binary(api.Mul, copyOf(y), copyOf(y))), list(deepRead(y), deepRead(y), shallowWrite(x))},
		{assign(at(x), binary(api.Mul, number(2), copyOf(y))), list(deepRead(y), shallowWrite(x))},
		{assign(at(p), binary(api.Lt, copyOf(ra, star), number(2))), list(deepRead(ra, star), shallowWrite(p))},
		{assign(at(p), binary(api.Eq, number(2), number(2))), list(shallowWrite(p))},
		{assign(at(fl, 0), binary(api.And, copyOf(fl, 0), move(p))), list(deepRead(fl, 0), deepWrite(p), shallowWrite(fl, 0))},
		{assign(at(fl), makeTuple(copyOf(p), move(y))), list(deepRead(p), deepWrite(y), shallowWrite(fl))},
		{assign(at(tw), makeTuple(copyOf(tw, 1), move(fl))), list(deepRead(tw, 1), deepWrite(fl), shallowWrite(tw))},
		{assign(at(mx), makeTuple(move(mx, 0), copyOf(mx, 1))), list(deepWrite(mx, 0), deepRead(mx, 1), shallowWrite(mx))},
		{assign(at(fl), makeTuple(truth(1), number(1))), list(shallowWrite(fl))},
	}
}

// goodTerm is a valid terminator of the sample body without its targets, how many these are, and its accesses.
type goodTerm struct {
	term    api.Term
	targets int
	want    []conflict.Access
}

// goodTerms returns terminators of all kinds.
func goodTerms() []goodTerm {
	return []goodTerm{
		{goTo(0), 1, nil}, {goTo(0), 1, nil}, {goTo(0), 1, nil},
		{leave(), 0, nil},
		{api.Term{Kind: api.Unreachable}, 0, nil},
		{branch(truth(1), 0, 0), 2, nil},
		{branch(copyOf(p), 0, 0), 2, list(deepRead(p))},
		{branch(move(p), 0, 0), 2, list(deepWrite(p))},
		{branch(copyOf(tw, 1, 0), 0, 0), 2, list(deepRead(tw, 1, 0))},
		{call(at(x), 0), 1, list(shallowWrite(x))},
		{call(at(u), 0, number(1), truth(0), nothing()), 1, list(shallowWrite(u))},
		{call(at(ma), 0, copyOf(y), number(1), move(ma), copyOf(y), copyOf(rr, star)), 1, list(deepRead(y), deepWrite(ma), deepRead(y), deepRead(rr, star), shallowWrite(ma))},
		{call(at(mb, star, 1, 0), 0, copyOf(mb, star, 1), move(mb)), 1, list(deepRead(mb, star, 1), deepWrite(mb), shallowWrite(mb, star, 1, 0))},
		{call(at(ma, star), 0, move(pb)), 1, list(deepWrite(pb), shallowWrite(ma, star))},
		{drop(at(x), 0), 1, list(shallowWrite(x))},
		{drop(at(mx, 0), 0), 1, list(shallowWrite(mx, 0))},
		{drop(at(mb), 0), 1, list(shallowWrite(mb))},
	}
}

// arbitraryBody returns a valid body with the sample's declarations and up to most blocks.
func arbitraryBody(most int, pick func(int) int) api.Body {
	b := sample()
	stmts, terms := goodStmts(), goodTerms()
	n := 1 + pick(most)
	for range n {
		c := block(api.Term{})
		for range pick(4) {
			c.Stmts = append(c.Stmts, stmts[pick(len(stmts))].stmt)
		}
		t := terms[pick(len(terms))]
		c.Term = t.term
		c.Term.Targets = nil
		for range t.targets {
			c.Term.Targets = append(c.Term.Targets, pick(n))
		}
		b.Blocks = append(b.Blocks, c)
	}
	return b
}

// path returns a text for a place, which begins that of another one if and only if the place is a prefix of it. A Deref is written as <0 and its field.
func path(l api.Place) string {
	s := fmt.Sprint(l.Local, "<")
	for _, c := range l.Proj {
		s += fmt.Sprintf("<%d %d>", c.Kind, c.Field)
	}
	return s
}

// modelOverlaps reports by their texts whether two places overlap.
func modelOverlaps(l, m api.Place) bool {
	return strings.HasPrefix(path(l), path(m)) || strings.HasPrefix(path(m), path(l))
}

// modelBehind reports whether a place is a proper prefix of another one with a Deref after it.
func modelBehind(l, m api.Place) bool {
	rest, isPrefix := strings.CutPrefix(path(m), path(l))
	return isPrefix && rest != "" && strings.Contains(rest, "<0 ")
}

// modelConflicts reports whether an access conflicts with a loan, as the chapter says it.
func modelConflicts(a conflict.Access, l api.Loan) bool {
	isExcepted := !a.Deep && modelBehind(a.Place, l.Place)
	return (a.Write || l.Mut) && modelOverlaps(a.Place, l.Place) && !isExcepted
}

// modelOperands returns the accesses of operands.
func modelOperands(args []api.Operand) []conflict.Access {
	var l []conflict.Access
	for _, o := range args {
		switch o.Kind {
		case api.Copy:
			l = append(l, conflict.Access{o.Place, false, true})
		case api.Move:
			l = append(l, conflict.Access{o.Place, true, true})
		}
	}
	return l
}

// modelPoint returns the accesses of a point and, if it is an Assign or a Call, its place.
func modelPoint(b api.Body, point int) ([]conflict.Access, *api.Place) {
	i, j, found := points.Locate(b, point)
	if !found {
		return nil, nil
	}
	t := b.Blocks[i].Term
	if j < len(b.Blocks[i].Stmts) {
		switch s := b.Blocks[i].Stmts[j]; s.Kind {
		case api.Assign:
			l := modelOperands(s.Rvalue.Args)
			if s.Rvalue.Kind == api.Borrow {
				l = append(l, conflict.Access{s.Rvalue.Place, s.Rvalue.Mut, true})
			}
			return append(l, conflict.Access{s.Place, true, false}), &s.Place
		case api.Dead:
			return list(shallowWrite(s.Local)), nil
		}
		return nil, nil
	}
	switch t.Kind {
	case api.If:
		return modelOperands(t.Args), nil
	case api.Call:
		return append(modelOperands(t.Args), conflict.Access{t.Place, true, false}), &t.Place
	case api.Drop:
		return list(conflict.Access{t.Place, true, false}), nil
	}
	return nil, nil
}

// show returns a text for a value, cut if it is long.
func show(v any) string {
	s := fmt.Sprintf("%+v", v)
	return s[:min(len(s), 1500)]
}

// equalAccesses compares lists of accesses by the texts of their places, so that it makes no difference whether an empty list is nil.
func equalAccesses(l, m []conflict.Access) bool {
	return slices.EqualFunc(l, m, func(a, c conflict.Access) bool {
		return path(a.Place) == path(c.Place) && a.Write == c.Write && a.Deep == c.Deep
	})
}

// checkAccesses checks a result of Accesses.
func checkAccesses(t *testing.T, b api.Body, point int, want ...conflict.Access) {
	t.Helper()
	if got := conflict.Accesses(b, point); !equalAccesses(got, want) {
		t.Errorf("Accesses of %d in %s: got %v, want %v", point, show(b.Blocks), show(got), show(want))
	}
}

// checkOverlaps checks a result of Overlaps, for both orders.
func checkOverlaps(t *testing.T, l, m api.Place, want bool) {
	t.Helper()
	if got, swapped := conflict.Overlaps(l, m), conflict.Overlaps(m, l); got != want || swapped != want {
		t.Errorf("Overlaps of %s and %s: got %v and %v, want %v", show(l), show(m), got, swapped, want)
	}
}

// checkConflicts checks a result of Conflicts.
func checkConflicts(t *testing.T, a conflict.Access, l api.Loan, want bool) {
	t.Helper()
	if got := conflict.Conflicts(a, l); got != want {
		t.Errorf("Conflicts of %s and %s: got %v", show(a), show(l), got)
	}
}

// checkLoan checks the results of Invalidates and Kills.
func checkLoan(t *testing.T, b api.Body, point int, l api.Loan, invalidates, kills bool) {
	t.Helper()
	if got := conflict.Invalidates(b, point, l); got != invalidates {
		t.Errorf("Invalidates of %d in %s and %s: got %v", point, show(b.Blocks), show(l), got)
	}
	if got := conflict.Kills(b, point, l); got != kills {
		t.Errorf("Kills of %d in %s and %s: got %v", point, show(b.Blocks), show(l), got)
	}
}

// checkPoint compares all results for a point and some loans with the model.
func checkPoint(t *testing.T, b api.Body, point int, loans []api.Loan) {
	t.Helper()
	accesses, assigned := modelPoint(b, point)
	checkAccesses(t, b, point, accesses...)
	for _, l := range loans {
		invalidates := slices.ContainsFunc(accesses, func(a conflict.Access) bool { return modelConflicts(a, l) })
		kills := assigned != nil && modelBehind(*assigned, l.Place)
		checkLoan(t, b, point, l, invalidates, kills)
	}
}

// checkBody compares all results for a body and some loans with the model.
func checkBody(t *testing.T, b api.Body, loans []api.Loan) {
	t.Helper()
	n := points.Count(b)
	for point := range n {
		checkPoint(t, b, point, loans)
	}
	for _, point := range append([]int{n, n + 1}, extremes...) {
		if point < 0 || point >= n {
			checkPoint(t, b, point, loans)
		}
	}
}

// needValid ends a test if its body is not valid.
func needValid(t *testing.T, b api.Body) {
	t.Helper()
	if e := valid.Check(b); e != api.OK {
		t.Fatalf("%s is not valid: %v", show(b.Blocks), e)
	}
}

// both returns a loan of a place, and one whose Mut is true.
func both(l api.Place) []api.Loan { return []api.Loan{{Place: l}, {Place: l, Mut: true}} }

// allPlaces returns all places of a local with up to most projections, which are Deref, Field 0 or Field 1.
func allPlaces(local, most int) []api.Place {
	l := []api.Place{at(local)}
	for i := 0; i < len(l); i++ {
		if len(l[i].Proj) == most {
			continue
		}
		for _, c := range at(local, star, 0, 1).Proj {
			l = append(l, api.Place{Local: local, Proj: append(slices.Clone(l[i].Proj), c)})
		}
	}
	return l
}

// someLoans returns loans of places of all locals.
func someLoans() []api.Loan {
	var l []api.Loan
	for local := range localsNum {
		for _, m := range [][]int{nil, {star}, {0}, {1}, {star, 0}, {star, 1}, {0, star}, {1, 0}, {1, 1}, {star, star}, {star, 0, star}, {star, 1, 0}, {star, 1, 1}, {1, 1, star}, {0, 0, 0}} {
			l = append(l, both(at(local, m...))...)
		}
	}
	return l
}

// The example of the chapter, and the example 6 of the document.
func TestExample(t *testing.T) {
	b := sample(block(leave(), assign(at(ma), borrow(0, true, at(y))), assign(at(fl), makeTuple(truth(1), number(1))), assign(at(x), use(copyOf(fl, 1)))))
	needValid(t, b)
	for _, l := range both(at(ma, star)) {
		checkLoan(t, b, 0, l, false, true)
	}
	for _, l := range both(at(ma)) {
		checkLoan(t, b, 0, l, true, false)
	}
	for _, l := range slices.Concat(both(at(fl)), both(at(fl, 0))) {
		checkLoan(t, b, 1, l, true, false)
	}
	for _, l := range both(at(fl, 0)) {
		checkLoan(t, b, 2, l, false, false)
	}
}

// P13.1: the accesses of all kinds of statements.
func TestStmts(t *testing.T) {
	for _, c := range goodStmts() {
		b := sample(block(goTo(1), nop(), c.stmt), block(leave(), c.stmt))
		needValid(t, b)
		checkAccesses(t, b, 1, c.want...)
		checkAccesses(t, b, 3, c.want...)
		for _, point := range []int{0, 2, 4, 5, -1} {
			checkAccesses(t, b, point)
		}
	}
}

// P13.1: the accesses of all kinds of terminators.
func TestTerms(t *testing.T) {
	for _, c := range goodTerms() {
		b := sample(block(goTo(1), dead(y)), block(c.term, nop()), block(c.term))
		needValid(t, b)
		checkAccesses(t, b, 3, c.want...)
		checkAccesses(t, b, 4, c.want...)
		checkAccesses(t, b, 0, shallowWrite(y))
		for _, point := range []int{1, 2, 5, -1} {
			checkAccesses(t, b, point)
		}
	}
}

// P13.1: the fields that a kind does not use are not accessed.
func TestUnusedFields(t *testing.T) {
	args := []api.Operand{copyOf(x), move(y)}
	full := api.Rvalue{Kind: api.MakeTuple, Mut: true, Place: at(ma), Args: args}
	for _, kind := range []int{api.Use, api.Unary, api.Binary, api.MakeTuple} {
		full.Kind = kind
		b := sample(block(leave(), api.Stmt{Place: at(fl, 1), Local: tw, Rvalue: full}))
		checkAccesses(t, b, 0, deepRead(x), deepWrite(y), shallowWrite(fl, 1))
	}
	full.Kind = api.Use
	b := sample(block(api.Term{Kind: api.Drop, Args: args, Place: at(fl)}, api.Stmt{Kind: api.Dead, Place: at(fl, 1), Local: tw, Rvalue: full}, api.Stmt{Kind: api.Nop, Place: at(fl, 1), Local: tw, Rvalue: full}))
	checkAccesses(t, b, 0, shallowWrite(tw))
	checkAccesses(t, b, 1)
	checkAccesses(t, b, 2, shallowWrite(fl))
	for _, kind := range []int{api.Goto, api.Return, api.Unreachable} {
		checkAccesses(t, sample(block(api.Term{Kind: kind, Args: args, Place: at(fl)})), 0)
	}
	checkAccesses(t, sample(block(api.Term{Kind: api.If, Args: args[:1], Place: at(fl)})), 0, deepRead(x))
}

// P13.1 and P13.3: numbers that are not points.
func TestNoPoint(t *testing.T) {
	all := assign(at(ma), use(move(ma)))
	for _, b := range []api.Body{{}, sample(), sample(block(drop(at(x), 0))), sample(block(call(at(ma), 0, move(ma)), all, all), block(drop(at(x), 0), all))} {
		n := points.Count(b)
		for _, point := range append([]int{n, n + 1}, extremes...) {
			checkAccesses(t, b, point)
			for _, l := range slices.Concat(both(at(ma)), both(at(ma, star)), both(at(u)), both(at(x))) {
				checkLoan(t, b, point, l, false, false)
			}
		}
	}
}

// P13.2: places that overlap and places that do not.
func TestOverlaps(t *testing.T) {
	for _, c := range []struct {
		l, m api.Place
		want bool
	}{
		{at(x), at(x), true},
		{at(x), at(y), false},
		{at(tw), at(tw, 1), true},
		{at(tw), at(tw, 1, 0), true},
		{at(tw, 1), at(tw, 1, 0), true},
		{at(tw, 1, 0), at(tw, 1, 0), true},
		{at(tw, 1), at(tw, 0), false},
		{at(tw, 1, 0), at(tw, 0, 0), false},
		{at(tw, 1, 0), at(tw, 1, 1), false},
		{at(tw, 1, 0), at(tw, 0), false},
		{at(ma), at(ma, star), true},
		{at(ma, star), at(ma, star), true},
		{at(ma, star), at(ma, 0), false},
		{at(mb), at(mb, star, 0, star), true},
		{at(mb, star, 0), at(mb, star, 0, star), true},
		{at(mb, star, 1), at(mb, star, 0, star), false},
		{at(mb, star, 1, 0), at(mb, star, 1, 1), false},
		{at(mb, star, 1, 0), at(rr, star, 1, 0), false},
		{at(mb, star), at(rr, star, star), false},
	} {
		checkOverlaps(t, c.l, c.m, c.want)
	}
}

// P13.2: accesses that conflict with a loan and those that do not.
func TestConflicts(t *testing.T) {
	for _, c := range []struct {
		l, m []int
		// whether a shallow and a deep access to l conflict with a loan of m, if one of them is a write or mutable
		shallow, deep bool
	}{
		{nil, nil, true, true},
		{[]int{0}, nil, true, true},
		{nil, []int{0}, true, true},
		{[]int{star}, nil, true, true},
		{nil, []int{star}, false, true},
		{[]int{star}, []int{star}, true, true},
		{[]int{star}, []int{star, 0}, true, true},
		{[]int{star, 0}, []int{star}, true, true},
		{[]int{star}, []int{star, star}, false, true},
		{[]int{star}, []int{star, 1, 0, star}, false, true},
		{[]int{star}, []int{star, 1, star, 0}, false, true},
		{[]int{star, star}, []int{star}, true, true},
		{nil, []int{0, 1, 2, star}, false, true},
		{nil, []int{0, star, 2}, false, true},
		{nil, []int{0, 1, 2, 3}, true, true},
		{[]int{0}, []int{0, star}, false, true},
		{[]int{0}, []int{1, star}, false, false},
		{[]int{0}, []int{1}, false, false},
		{[]int{star, 0}, []int{star, 1}, false, false},
		{[]int{star}, []int{0}, false, false},
	} {
		for _, other := range []int{x, y} {
			for i := range 8 {
				a := conflict.Access{Place: at(x, c.l...), Write: i&1 > 0, Deep: i&2 > 0}
				l := api.Loan{Place: at(other, c.m...), Mut: i&4 > 0}
				want := other == x && (a.Write || l.Mut) && (a.Deep && c.deep || !a.Deep && c.shallow)
				checkConflicts(t, a, l, want)
				// The Region and the Point of the loan do not matter.
				for _, n := range append([]int{1, 7}, extremes...) {
					l.Region, l.Point = n, -n
					checkConflicts(t, a, l, want)
				}
			}
		}
	}
}

// P13.2 and P13.4: all places with few projections, against the model.
func TestAllPlaces(t *testing.T) {
	l := append(allPlaces(0, 4), allPlaces(1, 2)...)
	conflicts := 0
	for _, m := range l {
		for _, n := range l {
			checkOverlaps(t, m, n, modelOverlaps(m, n))
			for i := range 8 {
				a := conflict.Access{Place: m, Write: i&1 > 0, Deep: i&2 > 0}
				loan := api.Loan{Place: n, Mut: i&4 > 0}
				want := modelConflicts(a, loan)
				checkConflicts(t, a, loan, want)
				if want {
					conflicts++
				}
			}
			checkConsequences(t, m, n)
		}
	}
	if conflicts < 3000 {
		t.Errorf("only %d conflicts", conflicts)
	}
}

// P13.4: checkConsequences checks by the results alone what follows from the definitions.
func checkConsequences(t *testing.T, l, m api.Place) {
	t.Helper()
	if !conflict.Overlaps(l, l) || conflict.Overlaps(l, m) != conflict.Overlaps(m, l) {
		t.Errorf("Overlaps of %s and %s is not reflexive or not symmetric", show(l), show(m))
	}
	for i := range 8 {
		a := conflict.Access{Place: l, Write: i&1 > 0, Deep: i&2 > 0}
		loan := api.Loan{Place: m, Mut: i&4 > 0}
		if !conflict.Conflicts(a, loan) {
			continue
		}
		if part(l, m) {
			t.Errorf("%s and %s conflict, but are apart", show(a), show(loan))
		}
		deep, write := a, a
		deep.Deep, write.Write = true, true
		if !conflict.Conflicts(deep, loan) || !conflict.Conflicts(write, loan) {
			t.Errorf("%s conflicts with %s, but does not if it becomes deep or a write", show(a), show(loan))
		}
	}
}

// part reports whether two places differ in a Field with the same index of projection, with equal projections before.
func part(l, m api.Place) bool {
	for i := range min(len(l.Proj), len(m.Proj)) {
		if c, d := l.Proj[i], m.Proj[i]; c != d {
			return c.Kind == api.Field && d.Kind == api.Field
		}
	}
	return false
}

// P13.3: the loans that a point invalidates or kills.
func TestLoans(t *testing.T) {
	for _, c := range []struct {
		b    api.Body
		l    api.Place
		mut  bool // whether the loan is mutable
		want [2]bool
	}{
		// An assignment to the place of the loan, a part of it, or what it is a part of.
		{sample(block(leave(), assign(at(x), use(number(1))))), at(x), false, [2]bool{true, false}},
		{sample(block(leave(), assign(at(x), use(number(1))))), at(y), true, [2]bool{false, false}},
		{sample(block(leave(), assign(at(tw, 1, 0), use(truth(1))))), at(tw), false, [2]bool{true, false}},
		{sample(block(leave(), assign(at(tw, 1), use(copyOf(fl))))), at(tw, 1, 0), false, [2]bool{true, false}},
		{sample(block(leave(), assign(at(tw, 1), use(copyOf(fl))))), at(tw, 0, 0), true, [2]bool{false, false}},
		// An assignment to a reference by way of which the place of the loan is reached.
		{sample(block(leave(), assign(at(ra), use(copyOf(sa))))), at(ra, star), true, [2]bool{false, true}},
		{sample(block(leave(), assign(at(mb, star, 0), borrow(0, true, at(x))))), at(mb, star, 0, star), true, [2]bool{false, true}},
		{sample(block(leave(), assign(at(mb, star, 0), borrow(0, true, at(x))))), at(mb, star, 0), true, [2]bool{true, false}},
		{sample(block(leave(), assign(at(mb, star, 0, star), use(number(1))))), at(mb, star, 0, star), false, [2]bool{true, false}},
		{sample(block(leave(), assign(at(mb), borrow(1, true, at(mx))))), at(mb, star, 1, 0), true, [2]bool{false, true}},
		{sample(block(leave(), assign(at(mb), borrow(1, true, at(mx))))), at(mx), false, [2]bool{true, false}},
		{sample(block(leave(), assign(at(mb), borrow(1, true, at(mx))))), at(mx, 0, star), false, [2]bool{true, false}},
		// A point may do both.
		{sample(block(leave(), assign(at(ma), use(move(ma))))), at(ma, star), false, [2]bool{true, true}},
		{sample(block(call(at(mx), 0, move(mx, 0)))), at(mx, 0, star), false, [2]bool{true, true}},
		// Dead and Drop write as an assignment does, but do not kill.
		{sample(block(leave(), dead(ma))), at(ma), false, [2]bool{true, false}},
		{sample(block(leave(), dead(ma))), at(ma, star), true, [2]bool{false, false}},
		{sample(block(drop(at(ma), 0))), at(ma), false, [2]bool{true, false}},
		{sample(block(drop(at(ma), 0))), at(ma, star), true, [2]bool{false, false}},
		{sample(block(drop(at(tw, 1), 0))), at(tw, 0), true, [2]bool{false, false}},
		// Operands.
		{sample(block(leave(), assign(at(x), use(copyOf(fl, 1))))), at(fl, 0), true, [2]bool{false, false}},
		{sample(block(leave(), assign(at(x), use(copyOf(fl, 1))))), at(fl, 1), true, [2]bool{true, false}},
		{sample(block(leave(), assign(at(x), use(copyOf(fl, 1))))), at(fl, 1), false, [2]bool{false, false}},
		{sample(block(leave(), assign(at(sa), use(copyOf(ra))))), at(ra, star), false, [2]bool{false, false}},
		{sample(block(leave(), assign(at(sa), use(copyOf(ra))))), at(ra, star), true, [2]bool{true, false}},
		{sample(block(leave(), assign(at(x), binary(api.Add, copyOf(x), move(y))))), at(y), false, [2]bool{true, false}},
		{sample(block(branch(copyOf(p), 0, 0))), at(p), true, [2]bool{true, false}},
		{sample(block(branch(copyOf(p), 0, 0))), at(p), false, [2]bool{false, false}},
		{sample(block(branch(move(p), 0, 0))), at(p), false, [2]bool{true, false}},
		{sample(block(branch(truth(1), 0, 0))), at(u), true, [2]bool{false, false}},
		// Borrows.
		{sample(block(leave(), assign(at(sa), borrow(0, false, at(x))))), at(x), false, [2]bool{false, false}},
		{sample(block(leave(), assign(at(sa), borrow(0, false, at(x))))), at(x), true, [2]bool{true, false}},
		{sample(block(leave(), assign(at(ma), borrow(0, true, at(x))))), at(x), false, [2]bool{true, false}},
		{sample(block(leave(), assign(at(ma), borrow(0, true, at(tw, 0, 1))))), at(tw, 0, 0), true, [2]bool{false, false}},
		// Calls.
		{sample(block(call(at(ra), 0))), at(ra, star), true, [2]bool{false, true}},
		{sample(block(call(at(ra), 0))), at(ra), false, [2]bool{true, false}},
		{sample(block(call(at(u), 0, copyOf(x), move(mb)))), at(mb, star, 0, star), false, [2]bool{true, false}},
		{sample(block(call(at(u), 0, copyOf(x), move(mb)))), at(x), false, [2]bool{false, false}},
		// Points without accesses.
		{sample(block(leave(), nop())), at(u), true, [2]bool{false, false}},
		{sample(block(goTo(0))), at(u), true, [2]bool{false, false}},
		{sample(block(api.Term{Kind: api.Unreachable})), at(u), true, [2]bool{false, false}},
	} {
		needValid(t, c.b)
		checkLoan(t, c.b, 0, api.Loan{Place: c.l, Mut: c.mut}, c.want[0], c.want[1])
		// The Region and the Point of the loan do not matter, nor does the place of the point.
		c.b.Blocks = append([]api.Block{block(leave(), nop(), nop())}, c.b.Blocks...)
		checkLoan(t, c.b, 3, api.Loan{Place: c.l, Mut: c.mut, Region: -1, Point: math.MaxInt}, c.want[0], c.want[1])
	}
}

// P13.1 and P13.3: all kinds of points and places, against the model.
func TestAllPoints(t *testing.T) {
	loans := someLoans()
	for _, c := range goodStmts() {
		checkBody(t, sample(block(leave(), c.stmt)), loans)
	}
	for _, c := range goodTerms() {
		checkBody(t, sample(block(c.term)), loans)
	}
	l := append(allPlaces(0, 3), allPlaces(1, 1)...)
	for _, m := range l {
		b := sample(block(call(m, 0), assign(m, use(number(1)))), block(drop(m, 0)), block(goTo(0), dead(m.Local), assign(at(2), borrow(0, true, m)), assign(at(2), use(copyOf(m.Local)))))
		for _, n := range l {
			checkBody(t, b, both(n))
		}
	}
}

// P13.1 to P13.3: arbitrary bodies against the model.
func TestArbitraryBodies(t *testing.T) {
	r := rand.New(rand.NewSource(1))
	loans := someLoans()
	for range 300 {
		b := arbitraryBody(6, r.Intn)
		needValid(t, b)
		checkBody(t, b, loans[:1+r.Intn(len(loans))])
	}
}

// odd is a list of numbers that few fields may have.
func odd() []int {
	return []int{0, 1, 2, 3, 4, 5, 6, 9, -1, -2, localsNum, math.MinInt, math.MaxInt, 1 << 32, api.MaxDepth}
}

// oddPlace returns a place of which any field may be odd.
func oddPlace(pick func(int) int) api.Place {
	some := func() int { return odd()[pick(len(odd()))] }
	l := api.Place{Local: some()}
	for range pick(5) {
		l.Proj = append(l.Proj, api.Proj{Kind: pick(3), Field: pick(2)})
	}
	if pick(5) == 0 {
		l.Proj = append(l.Proj, slices.Repeat([]api.Proj{{Kind: some(), Field: some()}}, pick(40))...)
	}
	return l
}

// P13.2: the places of accesses and loans are arbitrary.
func TestArbitraryPlaces(t *testing.T) {
	r := rand.New(rand.NewSource(2))
	conflicts := 0
	for range 20000 {
		l, m := oddPlace(r.Intn), oddPlace(r.Intn)
		switch r.Intn(4) {
		case 0:
			m = api.Place{Local: l.Local, Proj: slices.Concat(l.Proj, m.Proj)}
		case 1:
			m = api.Place{Local: l.Local, Proj: l.Proj[:r.Intn(len(l.Proj)+1)]}
		case 2:
			m.Local = l.Local
		}
		checkOverlaps(t, l, m, modelOverlaps(l, m))
		a, loan := conflict.Access{l, r.Intn(2) > 0, r.Intn(2) > 0}, api.Loan{Mut: r.Intn(2) > 0, Place: m}
		want := modelConflicts(a, loan)
		checkConflicts(t, a, loan, want)
		if want {
			conflicts++
		}
		b := sample(block(drop(l, 0), assign(l, use(number(1)))))
		checkLoan(t, b, 0, loan, modelConflicts(conflict.Access{l, true, false}, loan), modelBehind(l, m))
		checkLoan(t, b, 1, loan, modelConflicts(conflict.Access{l, true, false}, loan), false)
	}
	if conflicts < 1000 {
		t.Errorf("only %d conflicts", conflicts)
	}
	// The field of a Deref matters as well.
	checkOverlaps(t, api.Place{Proj: []api.Proj{{Kind: api.Deref, Field: 1}}}, at(0, star), false)
}

// broken returns a body some of whose numbers are changed to odd ones.
func broken(b api.Body, pick func(int) int) api.Body {
	b = bodies.Clone(b)
	some := func() int { return odd()[pick(len(odd()))] }
	for range 1 + pick(4) {
		c := &b.Blocks[pick(len(b.Blocks))]
		switch pick(7) {
		case 0:
			c.Term.Kind = some()
		case 1:
			c.Term.Targets = append(c.Term.Targets, some(), some())
		case 2:
			c.Term.Place = oddPlace(pick)
		case 3:
			c.Term.Args = append(c.Term.Args, api.Operand{Kind: some(), Place: oddPlace(pick)})
		case 4:
			b.Locals = b.Locals[:pick(len(b.Locals)+1)]
		case 5:
			b.Types = b.Types[:pick(len(b.Types)+1)]
		default:
			s := api.Stmt{Kind: some(), Local: some(), Place: oddPlace(pick)}
			s.Rvalue = api.Rvalue{Kind: some(), Op: some(), Region: some(), Place: oddPlace(pick), Args: []api.Operand{{Kind: some(), Place: oddPlace(pick)}}}
			c.Stmts = append(c.Stmts, s)
		}
	}
	return b
}

// P1 of the document: a body that is not valid does no harm.
func TestBrokenBodies(t *testing.T) {
	r := rand.New(rand.NewSource(3))
	invalid := 0
	for range 2000 {
		b := broken(arbitraryBody(5, r.Intn), r.Intn)
		if valid.Check(b) != api.OK {
			invalid++
		}
		for point := range points.Count(b) {
			l := api.Loan{Place: oddPlace(r.Intn)}
			conflict.Accesses(b, point)
			conflict.Invalidates(b, point, l)
			conflict.Kills(b, point, l)
		}
	}
	if invalid < 1000 {
		t.Errorf("only %d bodies are not valid", invalid)
	}
}

// Rule 4 of the document: arguments are not modified, and nothing behind the length of a slice is read.
func TestKeepsArguments(t *testing.T) {
	r := rand.New(rand.NewSource(4))
	loans := someLoans()
	for i := range loans {
		loans[i].Place.Proj = build.Spare(loans[i].Place.Proj, api.Proj{Kind: api.Deref})
	}
	for range 50 {
		b := arbitraryBody(5, r.Intn)
		b.Blocks = build.Spare(b.Blocks, block(drop(at(x), 0)))
		for i := range b.Blocks {
			c := &b.Blocks[i]
			c.Stmts = build.Spare(c.Stmts, assign(at(ra), use(copyOf(sa))))
			c.Term.Args = build.Spare(c.Term.Args, move(ma))
			c.Term.Place.Proj = build.Spare(c.Term.Place.Proj, api.Proj{Kind: api.Deref})
			for j := range c.Stmts {
				s := &c.Stmts[j]
				s.Place.Proj = build.Spare(s.Place.Proj, api.Proj{Kind: api.Deref})
				s.Rvalue.Args = build.Spare(s.Rvalue.Args, move(ma))
				s.Rvalue.Place.Proj = build.Spare(s.Rvalue.Place.Proj, api.Proj{Kind: api.Deref})
			}
		}
		before := bodies.Clone(b)
		checkBody(t, b, loans)
		if !reflect.DeepEqual(before, b) {
			t.Fatalf("%s was modified", show(before))
		}
		for _, point := range []int{points.Count(b), points.Count(b) + 1} {
			checkAccesses(t, b, point)
		}
	}
	for i, l := range someLoans() {
		if !slices.Equal(l.Place.Proj, loans[i].Place.Proj) {
			t.Errorf("the loan %d was modified", i)
		}
	}
}

// P13.1: the accesses are newly allocated, with their projections.
func TestNewMemory(t *testing.T) {
	shared := at(tw, 1, 1)
	b := sample(block(call(shared, 0, api.Operand{Place: shared}, api.Operand{Kind: api.Move, Place: shared}), assign(shared, binary(api.Add, api.Operand{Place: shared}, api.Operand{Place: shared})), assign(at(ra), borrow(0, false, shared))), block(drop(shared, 0)))
	needValid(t, b)
	before := bodies.Clone(b)
	for point := range points.Count(b) {
		want, _ := modelPoint(before, point)
		first := conflict.Accesses(b, point)
		for i := range first {
			got := conflict.Accesses(b, point)
			build.Overwrite(got[i].Place.Proj, api.Proj{Kind: 7, Field: 7})
			got[i].Place.Local = -7
			for j := range got {
				if j != i && !equalAccesses(got[j:j+1], want[j:j+1]) {
					t.Errorf("the accesses %d and %d of %d share memory", i, j, point)
				}
			}
			build.Overwrite(got, conflict.Access{})
		}
		if !equalAccesses(first, want) {
			t.Errorf("results of separate calls for %d share memory", point)
		}
	}
	if !reflect.DeepEqual(b, before) {
		t.Error("a result shares memory with the body")
	}
}

// Rule 7 of the document: a result depends on the arguments as they are at the time of the call.
func TestCallsAreSeparate(t *testing.T) {
	b := sample(block(leave(), assign(at(x), use(copyOf(y)))))
	l := api.Loan{Place: at(x)}
	checkAccesses(t, b, 0, deepRead(y), shallowWrite(x))
	checkLoan(t, b, 0, l, true, false)
	l.Place.Local = y
	checkLoan(t, b, 0, l, false, false)
	l.Mut = true
	checkLoan(t, b, 0, l, true, false)
	b.Blocks[0].Stmts[0].Rvalue.Args[0] = number(1)
	checkAccesses(t, b, 0, shallowWrite(x))
	checkLoan(t, b, 0, l, false, false)
	b.Blocks[0].Stmts = nil
	checkAccesses(t, b, 0)
	l.Place = at(x, star)
	checkLoan(t, b, 0, l, false, false)
}

// Rule 6 of the document: the functions may be called concurrently, with the same body as well.
func TestConcurrentCalls(t *testing.T) {
	r := rand.New(rand.NewSource(5))
	var l []api.Body
	for range 10 {
		l = append(l, arbitraryBody(5, r.Intn))
	}
	loans := someLoans()
	var group sync.WaitGroup
	for range 8 {
		group.Go(func() {
			for _, b := range l {
				checkBody(t, b, loans)
			}
		})
	}
	group.Wait()
}

// Rule 4 of the document: an empty slice may be nil or not.
func TestEmptySlices(t *testing.T) {
	r := rand.New(rand.NewSource(6))
	loans := someLoans()
	for range 20 {
		b := arbitraryBody(4, r.Intn)
		for _, isNil := range []bool{true, false} {
			checkBody(t, build.Emptied(b, isNil), loans)
		}
	}
	checkOverlaps(t, api.Place{}, api.Place{Proj: []api.Proj{}}, true)
	checkConflicts(t, conflict.Access{Write: true}, api.Loan{Place: api.Place{Proj: []api.Proj{}}}, true)
}

// P1 of the document: great bodies and places do not take long.
func TestGreatInputs(t *testing.T) {
	// A point with many operands, and one after many statements and blocks.
	const n = api.MaxCount
	args := slices.Repeat([]api.Operand{copyOf(y)}, n)
	b := sample(block(call(at(x), 0, args...)))
	want := append(slices.Repeat(list(deepRead(y)), n), shallowWrite(x))
	checkAccesses(t, b, 0, want...)
	checkLoan(t, b, 0, api.Loan{Place: at(x)}, true, false)
	checkLoan(t, b, 0, api.Loan{Place: at(y)}, false, false)
	b.Blocks = append(slices.Repeat([]api.Block{block(goTo(0), nop(), nop())}, n-1), b.Blocks[0])
	checkLoan(t, b, 3*(n-1), api.Loan{Place: at(y), Mut: true}, true, false)
	checkLoan(t, b, 3*(n-1)+1, api.Loan{Place: at(y), Mut: true}, false, false)

	// Places with many more projections than api.MaxDepth.
	const long = 1 << 20
	l := api.Place{Proj: slices.Repeat([]api.Proj{{Kind: api.Field}}, long)}
	m := api.Place{Proj: append(slices.Clone(l.Proj), api.Proj{Kind: api.Deref})}
	checkOverlaps(t, l, m, true)
	checkConflicts(t, conflict.Access{Place: l, Write: true}, api.Loan{Place: m}, false)
	checkConflicts(t, conflict.Access{Place: l, Write: true, Deep: true}, api.Loan{Place: m}, true)
	checkConflicts(t, conflict.Access{Place: m, Write: true}, api.Loan{Place: l}, true)
	b = sample(block(leave(), assign(l, use(number(1)))))
	checkLoan(t, b, 0, api.Loan{Place: m}, false, true)
	l.Proj[long-1].Field = 1
	checkOverlaps(t, l, m, false)
	checkLoan(t, b, 0, api.Loan{Place: m}, false, false)
}

// FuzzConflict compares bodies and places that are made of bytes with the model.
func FuzzConflict(f *testing.F) {
	f.Add([]byte{})
	f.Add([]byte{1, 3, 6, 10, 30, 6, 1, 0, 2, 20, 31, 3})
	f.Add([]byte(fmt.Sprint(sample())))
	f.Fuzz(func(t *testing.T, choices []byte) {
		pick := build.Picker(choices)
		b := arbitraryBody(4, pick)
		loans := slices.Concat(both(oddPlace(pick)), both(oddPlace(pick)), both(at(pick(localsNum), star, pick(2))))
		checkBody(t, b, loans)
		for _, l := range loans {
			checkConsequences(t, l.Place, loans[pick(len(loans))].Place)
		}
		for point := range points.Count(b) {
			conflict.Accesses(broken(b, pick), point)
		}
	})
}
