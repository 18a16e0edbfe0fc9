package regions_test

import (
	"math"
	"math/rand"
	"reflect"
	"slices"
	"sync"
	"testing"

	"mirtower/api"
	"mirtower/regions"
	"mirtower/types"
)

// unit, boolean and integer are the types without other fields.
var unit, boolean, integer = api.Type{Kind: api.Unit}, api.Type{Kind: api.Bool}, api.Type{Kind: api.Int}

// extremes are numbers that are neither regions nor indices of any small list.
var extremes = []int{-1, -2, math.MinInt, math.MaxInt, math.MinInt32, math.MaxInt32, 1 << 17, 1 << 32, -1 << 32}

// ref returns a reference whose Mut is false.
func ref(region, elem int) api.Type { return api.Type{Kind: api.Ref, Region: region, Elem: elem} }

// mutRef returns a reference whose Mut is true.
func mutRef(region, elem int) api.Type {
	return api.Type{Kind: api.Ref, Mut: true, Region: region, Elem: elem}
}

// tuple returns a tuple.
func tuple(fields ...int) api.Type { return api.Type{Kind: api.Tuple, Fields: fields} }

// pairsOf returns a list of pairs in new memory.
func pairsOf(l ...[2]int) [][2]int { return slices.Clone(l) }

// show returns the part of a list that is worth reading.
func show[T any](l []T) []T { return l[:min(len(l), 40)] }

// modelError returns the error of a list of pairs.
func modelError(pairs [][2]int, n int) api.Errno {
	if len(pairs) >= 65536 {
		return api.ErrLimit
	}
	for i, p := range pairs {
		if p[0] < 0 || p[1] < 0 || p[0] >= n || p[1] >= n {
			return api.ErrRange
		}
		if p[0] == p[1] {
			return api.ErrArg
		}
		if i > 0 {
			q := pairs[i-1]
			if q[0] > p[0] || q[0] == p[0] && q[1] >= p[1] {
				return api.ErrDuplicate
			}
		}
	}
	return api.OK
}

// model has, for each two of some regions, whether the first outlives the second.
type model [][]bool

// modelOf returns the model of a list of pairs: a sequence of regions may go by way of each region in turn.
func modelOf(pairs [][2]int, n int) model {
	m := make(model, n)
	for a := range m {
		m[a] = make([]bool, n)
		m[a][a] = true
	}
	for _, p := range pairs {
		m[p[0]][p[1]] = true
	}
	for by := range m {
		for a := range m {
			for b := range m {
				m[a][b] = m[a][b] || m[a][by] && m[by][b]
			}
		}
	}
	return m
}

// outlives reports whether two numbers are regions and the first outlives the second.
func (m model) outlives(a, b int) bool {
	return 0 <= a && a < len(m) && 0 <= b && b < len(m) && m[a][b]
}

// closure returns the regions that outlive one of l.
func (m model) closure(l []int) []int {
	var closure []int
	for a := range m {
		if slices.ContainsFunc(l, func(b int) bool { return m.outlives(a, b) }) {
			closure = append(closure, a)
		}
	}
	return closure
}

// subtypes returns, for each two types of a valid list, whether the first is a subtype of the second. Both are built of earlier types.
func (m model) subtypes(l []api.Type) [][]bool {
	sub := make([][]bool, len(l))
	for s := range l {
		sub[s] = make([]bool, len(l))
		for t := range s + 1 {
			sub[s][t] = m.subtype(l[s], l[t], sub)
			sub[t][s] = m.subtype(l[t], l[s], sub)
		}
	}
	return sub
}

// subtype reports whether s is a subtype of t, given which of the types that they are built of are subtypes.
func (m model) subtype(s, t api.Type, sub [][]bool) bool {
	switch {
	case s.Kind != t.Kind:
		return false
	case s.Kind == api.Ref && s.Mut && t.Mut:
		return m[s.Region][t.Region] && sub[s.Elem][t.Elem] && sub[t.Elem][s.Elem]
	case s.Kind == api.Ref && !s.Mut && !t.Mut:
		return m[s.Region][t.Region] && sub[s.Elem][t.Elem]
	case s.Kind == api.Ref:
		return false
	case len(s.Fields) != len(t.Fields):
		return false
	}
	for i := range s.Fields {
		if !sub[s.Fields[i]][t.Fields[i]] {
			return false
		}
	}
	return true
}

// checkError checks that a list of pairs has an error, in the model as well, and that New returns it.
func checkError(t *testing.T, pairs [][2]int, n int, e api.Errno) {
	t.Helper()
	if got := regions.Check(pairs, n); got != e {
		t.Errorf("Check(%v, %d) = %v, want %v", show(pairs), n, got, e)
	}
	if want := modelError(pairs, n); want != e {
		t.Errorf("%v, %d: the model has %v, the test %v", show(pairs), n, want, e)
	}
	if r, got := regions.New(pairs, n); got != e || (r != nil) != (e == api.OK) {
		t.Errorf("New(%v, %d) = %v, %v; want %v", show(pairs), n, r, got, e)
	}
}

// newRelation returns the relation of a valid list of pairs.
func newRelation(t *testing.T, pairs [][2]int, n int) *regions.Relation {
	t.Helper()
	checkError(t, pairs, n, api.OK)
	r, e := regions.New(pairs, n)
	if r == nil || e != api.OK {
		t.Fatalf("New(%v, %d) = %v, %v", show(pairs), n, r, e)
	}
	return r
}

// checkOutlives checks a call of Outlives.
func checkOutlives(t *testing.T, r *regions.Relation, a, b int, want bool) {
	t.Helper()
	if got := r.Outlives(a, b); got != want {
		t.Errorf("Outlives(%d, %d) = %v", a, b, got)
	}
}

// checkClosure checks a call of Closure.
func checkClosure(t *testing.T, r *regions.Relation, l, want []int) {
	t.Helper()
	if got := r.Closure(l); !slices.Equal(got, want) {
		t.Errorf("Closure(%v) = %v, want %v", show(l), show(got), show(want))
	}
}

// checkSubtype checks a call of Subtype.
func checkSubtype(t *testing.T, r *regions.Relation, l []api.Type, s, u int, want bool) {
	t.Helper()
	if got := r.Subtype(l, s, u); got != want {
		t.Errorf("%v: Subtype(%d, %d) = %v", show(l), s, u, got)
	}
}

// checkRelation compares all that a relation of few regions says with the model.
func checkRelation(t *testing.T, r *regions.Relation, pairs [][2]int, n int) model {
	t.Helper()
	m := modelOf(pairs, n)
	for a := -2; a < n+2; a++ {
		for b := -2; b < n+2; b++ {
			checkOutlives(t, r, a, b, m.outlives(a, b))
			checkClosure(t, r, []int{a, b}, m.closure([]int{a, b}))
		}
		checkClosure(t, r, []int{a}, m.closure([]int{a}))
	}
	checkClosure(t, r, nil, nil)
	return m
}

// checkSubtypes compares Subtype with the model for each two elements of a valid list.
func checkSubtypes(t *testing.T, pairs [][2]int, n int, l []api.Type) [][]bool {
	t.Helper()
	if e := types.Check(l, n); e != api.OK {
		t.Fatalf("%v: %v", show(l), e)
	}
	r := newRelation(t, pairs, n)
	sub := modelOf(pairs, n).subtypes(l)
	for s := range l {
		for u := range l {
			checkSubtype(t, r, l, s, u, sub[s][u])
		}
		for _, u := range append([]int{len(l), len(l) + 1}, extremes...) {
			checkSubtype(t, r, l, s, u, false)
			checkSubtype(t, r, l, u, s, false)
			checkSubtype(t, r, l, u, u, false)
		}
	}
	return sub
}

// chain returns the pairs of each of n regions with the next one.
func chain(n int) [][2]int {
	var pairs [][2]int
	for i := range n - 1 {
		pairs = append(pairs, [2]int{i, i + 1})
	}
	return pairs
}

// count returns from, ..., to-1.
func count(from, to int) []int {
	var l []int
	for i := from; i < to; i++ {
		l = append(l, i)
	}
	return l
}

// P7.1 to P7.4: the examples of the chapter and of the document.
func TestExamples(t *testing.T) {
	pairs := pairsOf([2]int{0, 1}, [2]int{1, 2})
	r := newRelation(t, pairs, 3)
	checkOutlives(t, r, 0, 2, true)
	checkOutlives(t, r, 2, 0, false)
	checkClosure(t, r, []int{1}, []int{0, 1})
	checkError(t, pairsOf([2]int{1, 2}, [2]int{0, 1}), 3, api.ErrDuplicate)
	l := []api.Type{integer, ref(0, 0), ref(1, 0)}
	checkSubtype(t, r, l, 1, 2, true)
	checkSubtype(t, r, l, 2, 1, false)
}

// P7.1: each error, and the order of the errors of a pair.
func TestErrors(t *testing.T) {
	for _, c := range []struct {
		pairs [][2]int
		n     int
		e     api.Errno
	}{
		{nil, 0, api.OK},
		{pairsOf(), 3, api.OK},
		{pairsOf([2]int{0, 1}), 2, api.OK},
		{pairsOf([2]int{1, 0}), 2, api.OK},
		{pairsOf([2]int{0, 1}, [2]int{1, 0}), 2, api.OK},
		{pairsOf([2]int{0, 2}, [2]int{1, 0}, [2]int{1, 2}, [2]int{2, 1}), 3, api.OK},
		{pairsOf([2]int{0, 2}), 2, api.ErrRange},
		{pairsOf([2]int{2, 0}), 2, api.ErrRange},
		{pairsOf([2]int{-1, 0}), 2, api.ErrRange},
		{pairsOf([2]int{0, -1}), 2, api.ErrRange},
		{pairsOf([2]int{0, 1}), 1, api.ErrRange},
		{pairsOf([2]int{0, 0}), 0, api.ErrRange},
		{pairsOf([2]int{2, 2}), 2, api.ErrRange},
		{pairsOf([2]int{-1, -1}), 2, api.ErrRange},
		{pairsOf([2]int{0, 0}), 1, api.ErrArg},
		{pairsOf([2]int{1, 1}), 2, api.ErrArg},
		{pairsOf([2]int{1, 2}, [2]int{2, 2}), 3, api.ErrArg},
		{pairsOf([2]int{1, 2}, [2]int{1, 1}), 3, api.ErrArg},
		{pairsOf([2]int{1, 2}, [2]int{0, 0}), 3, api.ErrArg},
		{pairsOf([2]int{1, 2}, [2]int{1, 3}), 3, api.ErrRange},
		{pairsOf([2]int{1, 2}, [2]int{0, -1}), 3, api.ErrRange},
		{pairsOf([2]int{1, 2}, [2]int{1, 2}), 3, api.ErrDuplicate},
		{pairsOf([2]int{1, 2}, [2]int{1, 0}), 3, api.ErrDuplicate},
		{pairsOf([2]int{1, 0}, [2]int{0, 2}), 3, api.ErrDuplicate},
		{pairsOf([2]int{0, 1}, [2]int{1, 2}, [2]int{0, 1}), 3, api.ErrDuplicate},
	} {
		checkError(t, c.pairs, c.n, c.e)
	}
}

// P7.1 and P7.2: the first pair with an error decides, whatever follows it.
func TestFirstError(t *testing.T) {
	good := pairsOf([2]int{2, 3}, [2]int{3, 0})
	bad := []struct {
		p [2]int
		e api.Errno
	}{
		{[2]int{4, 9}, api.ErrRange}, {[2]int{9, 9}, api.ErrRange}, {[2]int{-1, 4}, api.ErrRange},
		{[2]int{4, 4}, api.ErrArg}, {[2]int{0, 0}, api.ErrArg}, {[2]int{3, 0}, api.ErrDuplicate}, {[2]int{2, 4}, api.ErrDuplicate},
	}
	for _, first := range bad {
		checkError(t, append(pairsOf(good...), first.p), 5, first.e)
		for _, second := range bad {
			checkError(t, append(pairsOf(good...), first.p, second.p), 5, first.e)
			checkError(t, append(pairsOf(good...), first.p, [2]int{4, 3}, second.p), 5, first.e)
			checkError(t, append(pairsOf(good...), [2]int{4, 3}, first.p, second.p), 5, modelError(append(pairsOf(good...), [2]int{4, 3}, first.p), 5))
		}
	}
}

// P7.1 and P7.2: all lists of up to three pairs of small numbers.
func TestSmallLists(t *testing.T) {
	var all [][2]int
	for a := -1; a < 4; a++ {
		for b := -1; b < 4; b++ {
			all = append(all, [2]int{a, b})
		}
	}
	for n := -1; n <= 4; n++ {
		checkError(t, nil, n, api.OK)
		for _, p := range all {
			checkError(t, pairsOf(p), n, modelError(pairsOf(p), n))
			for _, q := range all {
				checkError(t, pairsOf(p, q), n, modelError(pairsOf(p, q), n))
				for _, x := range all {
					checkError(t, pairsOf(p, q, x), n, modelError(pairsOf(p, q, x), n))
				}
			}
		}
	}
}

// P7.1: any number of regions, and any numbers in a pair.
func TestNumbers(t *testing.T) {
	numbers := append([]int{0, 1, 2, 65534, 65535, 65536, math.MaxInt - 1}, extremes...)
	for _, n := range numbers {
		checkError(t, nil, n, api.OK)
		for _, a := range numbers {
			for _, b := range numbers {
				checkError(t, pairsOf([2]int{a, b}), n, modelError(pairsOf([2]int{a, b}), n))
			}
		}
	}
}

// P7.1: the limit precedes all other errors.
func TestLimit(t *testing.T) {
	pairs := chain(65537)
	checkError(t, pairs[:65535], 65536, api.OK)
	checkError(t, pairs, 65537, api.ErrLimit)
	checkError(t, pairs[:65535], 65535, api.ErrRange)
	checkError(t, pairs, 2, api.ErrLimit)
	checkError(t, make([][2]int, 65535), 1, api.ErrArg)
	checkError(t, make([][2]int, 65536), 1, api.ErrLimit)
	checkError(t, make([][2]int, 65536), 0, api.ErrLimit)
	last := pairsOf(pairs[:65535]...)
	last[65534] = last[65533]
	checkError(t, last, 65536, api.ErrDuplicate)
}

// P7.2 and rule 4 of the document: the relation does not change with the pairs, which New leaves as they are.
func TestKeepsPairs(t *testing.T) {
	memory := pairsOf([2]int{0, 1}, [2]int{1, 2}, [2]int{2, 3}, [2]int{-1, 9})
	before := slices.Clone(memory)
	r := newRelation(t, memory[:2], 4)
	checkRelation(t, r, before[:2], 4)
	if !slices.Equal(memory, before) {
		t.Errorf("%v was modified", memory)
	}
	for i := range memory {
		memory[i] = [2]int{3, 0}
	}
	checkRelation(t, r, before[:2], 4)
}

// P2 of the document: relations are independent of each other.
func TestSeparateRelations(t *testing.T) {
	lists := [][][2]int{nil, pairsOf([2]int{0, 1}), pairsOf([2]int{1, 0}), chain(4), pairsOf([2]int{0, 3}, [2]int{3, 1})}
	var relations []*regions.Relation
	for _, pairs := range lists {
		relations = append(relations, newRelation(t, pairs, 4))
	}
	for range 2 {
		for i, r := range relations {
			checkRelation(t, r, lists[i], 4)
		}
	}
}

// P7.3: relations that are written out.
func TestRelations(t *testing.T) {
	for _, c := range []struct {
		pairs [][2]int
		n     int
		a, b  int
		want  bool
	}{
		{nil, 1, 0, 0, true},
		{nil, 2, 0, 1, false},
		{pairsOf([2]int{0, 1}), 2, 0, 1, true},
		{pairsOf([2]int{0, 1}), 2, 1, 0, false},
		{pairsOf([2]int{0, 1}), 2, 1, 1, true},
		{pairsOf([2]int{1, 0}), 2, 1, 0, true},
		{pairsOf([2]int{0, 1}, [2]int{2, 1}), 3, 0, 2, false},
		{pairsOf([2]int{1, 0}, [2]int{1, 2}), 3, 0, 2, false},
		{pairsOf([2]int{0, 1}, [2]int{1, 0}), 2, 1, 0, true},
		{pairsOf([2]int{0, 1}, [2]int{1, 2}, [2]int{2, 0}), 4, 2, 1, true},
		{pairsOf([2]int{0, 1}, [2]int{1, 2}, [2]int{2, 0}), 4, 2, 3, false},
		{pairsOf([2]int{0, 1}, [2]int{1, 2}, [2]int{2, 0}), 4, 3, 3, true},
		{pairsOf([2]int{0, 2}, [2]int{1, 3}, [2]int{2, 1}), 4, 0, 3, true},
		{pairsOf([2]int{0, 2}, [2]int{1, 3}, [2]int{3, 1}), 4, 0, 3, false},
	} {
		r := newRelation(t, c.pairs, c.n)
		checkOutlives(t, r, c.a, c.b, c.want)
		checkRelation(t, r, c.pairs, c.n)
	}
}

// P7.3: lists with repeated elements and with elements that are not regions.
func TestClosureOfLists(t *testing.T) {
	r := newRelation(t, pairsOf([2]int{0, 2}, [2]int{3, 2}, [2]int{4, 5}, [2]int{5, 4}), 9)
	checkClosure(t, r, []int{2}, []int{0, 2, 3})
	checkClosure(t, r, []int{2, 2, 2}, []int{0, 2, 3})
	checkClosure(t, r, []int{3, 2, 0}, []int{0, 2, 3})
	checkClosure(t, r, []int{8, 7, 8, 6, 7}, []int{6, 7, 8})
	checkClosure(t, r, []int{8, 4, 8, 2, 1, 4}, []int{0, 1, 2, 3, 4, 5, 8})
	checkClosure(t, r, []int{9, 7, -1, 5, 10}, []int{4, 5, 7})
	checkClosure(t, r, extremes, nil)
	checkClosure(t, r, append([]int{0}, extremes...), []int{0})
	checkClosure(t, r, []int{}, nil)
	checkClosure(t, r, slices.Repeat([]int{2, 6}, 40000), []int{0, 2, 3, 6})
}

// P7.3 and rule 4 of the document: the list is not modified, nothing behind it is read, and a result is not shared with it, with another result or with the relation.
func TestClosureIsSeparate(t *testing.T) {
	r := newRelation(t, chain(4), 6)
	memory := []int{5, 2, 5, 4, 3}
	l := memory[:3]
	first := r.Closure(l)
	second := r.Closure(l)
	if !slices.Equal(memory, []int{5, 2, 5, 4, 3}) {
		t.Errorf("%v was modified", memory)
	}
	clear(first)
	_ = append(first, 7, 7)
	clear(memory)
	if !slices.Equal(second, []int{0, 1, 2, 5}) {
		t.Errorf("%v: shared with another result", second)
	}
	checkRelation(t, r, chain(4), 6)
}

// P7.3: numbers that are not regions, for any number of regions.
func TestManyOrNoRegions(t *testing.T) {
	for _, n := range []int{0, -1, math.MinInt} {
		r := newRelation(t, nil, n)
		for _, a := range append([]int{0, 1, n}, extremes...) {
			checkOutlives(t, r, a, a, false)
			checkClosure(t, r, []int{a, 0}, nil)
		}
	}
	top := math.MaxInt - 1
	r := newRelation(t, pairsOf([2]int{7, top}, [2]int{1 << 40, 7}), math.MaxInt)
	checkOutlives(t, r, 1<<40, top, true)
	checkOutlives(t, r, top, 1<<40, false)
	checkOutlives(t, r, top, top, true)
	checkOutlives(t, r, top-1, top-1, true)
	checkOutlives(t, r, top-1, top, false)
	checkOutlives(t, r, math.MaxInt, math.MaxInt, false)
	checkClosure(t, r, []int{math.MaxInt, top, -1, 1 << 50}, []int{7, 1 << 40, 1 << 50, top})
	l := []api.Type{integer, ref(1<<40, 0), ref(top, 0), ref(top-1, 0)}
	checkSubtype(t, r, l, 1, 2, true)
	checkSubtype(t, r, l, 2, 1, false)
	checkSubtype(t, r, l, 3, 3, true)
	checkSubtype(t, r, l, 3, 2, false)
}

// P7.3: relations of the greatest size, whose regions lead to each other in long ways and in many.
func TestGreatRelations(t *testing.T) {
	r := newRelation(t, chain(65536), 65536)
	checkOutlives(t, r, 0, 65535, true)
	checkOutlives(t, r, 65535, 0, false)
	checkOutlives(t, r, 30000, 29999, false)
	checkClosure(t, r, []int{40000, 20000}, count(0, 40001))
	checkClosure(t, r, count(0, 65536), count(0, 65536))

	ring := append(chain(65535), [2]int{65534, 0})
	r = newRelation(t, ring, 65536)
	checkOutlives(t, r, 1, 0, true)
	checkClosure(t, r, []int{65534}, count(0, 65535))
	checkClosure(t, r, []int{65535}, []int{65535})

	var star, mesh [][2]int
	for i := range 65535 {
		star = append(star, [2]int{i, 65535})
	}
	r = newRelation(t, star, 65536)
	checkClosure(t, r, []int{65535}, count(0, 65536))
	checkOutlives(t, r, 3, 4, false)
	for i := range 250 {
		for j := range 250 {
			if i != j {
				mesh = append(mesh, [2]int{i, j})
			}
		}
	}
	r = newRelation(t, mesh, 251)
	checkOutlives(t, r, 249, 0, true)
	checkOutlives(t, r, 250, 0, false)
	checkClosure(t, r, []int{100}, count(0, 250))
}

// arbitraryPairs returns a valid list of pairs of n regions.
func arbitraryPairs(r *rand.Rand, n, most int) [][2]int {
	var pairs [][2]int
	for range r.Intn(most + 1) {
		if a, b := r.Intn(n), r.Intn(n); a != b {
			pairs = append(pairs, [2]int{a, b})
		}
	}
	slices.SortFunc(pairs, func(p, q [2]int) int { return slices.Compare(p[:], q[:]) })
	return slices.Compact(pairs)
}

// P7.3 and P7.5: arbitrary relations, compared with the model; each region outlives itself, and the relation is transitive.
func TestRelationsAgainstModel(t *testing.T) {
	random := rand.New(rand.NewSource(1))
	for range 1500 {
		n := 1 + random.Intn(9)
		pairs := arbitraryPairs(random, n, 12)
		r := newRelation(t, pairs, n)
		m := checkRelation(t, r, pairs, n)
		var l []int
		for range random.Intn(6) {
			l = append(l, random.Intn(n+2)-1)
		}
		checkClosure(t, r, l, m.closure(l))
		for a := range n {
			checkOutlives(t, r, a, a, true)
			for b := range n {
				for c := range n {
					if r.Outlives(a, b) && r.Outlives(b, c) {
						checkOutlives(t, r, a, c, true)
					}
				}
			}
		}
	}
}

// P7.4: each case of the definition, and what it excludes. Region 0 outlives 1, and 1 and 2 outlive each other; 3 is on its own.
func TestSubtypes(t *testing.T) {
	pairs := pairsOf([2]int{0, 1}, [2]int{1, 2}, [2]int{2, 1})
	l := []api.Type{
		unit, boolean, integer,
		ref(0, 2), ref(1, 2), ref(2, 2), ref(3, 2), // 3 to 6
		mutRef(0, 2), mutRef(1, 2), mutRef(2, 2), // 7 to 9
		ref(0, 3), ref(1, 4), ref(0, 4), // 10 to 12
		mutRef(0, 3), mutRef(0, 4), mutRef(1, 5), // 13 to 15
		ref(0, 7), ref(1, 8), // 16, 17
		tuple(3), tuple(4), tuple(3, 4), tuple(4, 3), tuple(4, 4), tuple(4, 4, 4), // 18 to 23
		tuple(7, 2), tuple(8, 2), tuple(8, 1), // 24 to 26
		mutRef(0, 18), mutRef(0, 19), ref(0, 20), ref(2, 22), // 27 to 30
		ref(0, 1), ref(1, 0), // 31, 32
		ref(0, 13), ref(0, 14), ref(0, 8), // 33 to 35
	}
	sub := checkSubtypes(t, pairs, 4, l)
	for _, c := range []struct {
		s, t int
		want bool
	}{
		{0, 0, true}, {1, 1, true}, {2, 2, true}, {0, 1, false}, {2, 1, false}, {2, 3, false}, {3, 2, false}, {18, 3, false},
		{3, 4, true}, {4, 3, false}, {3, 5, true}, {4, 5, true}, {5, 4, true}, {3, 6, false}, {6, 3, false}, {6, 6, true},
		{7, 8, true}, {8, 7, false}, {8, 9, true}, {3, 7, false}, {7, 3, false}, {7, 4, false}, {3, 31, false}, {31, 32, false},
		{10, 11, true}, {11, 10, false}, {10, 12, true}, {12, 10, false}, {12, 11, true},
		{13, 14, false}, {14, 13, false}, {14, 15, true}, {15, 14, false}, {13, 13, true}, {13, 15, false},
		{16, 17, true}, {17, 16, false}, {33, 34, false}, {34, 33, false}, {33, 35, false},
		{18, 19, true}, {19, 18, false}, {20, 22, true}, {21, 22, true}, {20, 21, false}, {22, 20, false}, {22, 23, false}, {23, 22, false}, {18, 20, false},
		{24, 25, true}, {25, 24, false}, {24, 26, false}, {27, 28, false}, {28, 27, false}, {29, 30, true}, {30, 29, false},
	} {
		if sub[c.s][c.t] != c.want {
			t.Errorf("the model has %v for %d and %d", sub[c.s][c.t], c.s, c.t)
		}
	}
}

// P7.4: the empty list, and indices that are none.
func TestNoTypes(t *testing.T) {
	r := newRelation(t, nil, 1)
	for _, i := range append([]int{0, 1}, extremes...) {
		checkSubtype(t, r, nil, i, i, false)
		checkSubtype(t, r, []api.Type{}, i, 0, false)
	}
	memory := []api.Type{integer, boolean}
	checkSubtype(t, r, memory[:1], 1, 1, false)
	checkSubtype(t, r, memory[:1], 0, 0, true)
}

// shapes returns, for each type of a valid list, the index of the first one that differs from it in regions only.
func shapes(l []api.Type) []int {
	var shaped []api.Type
	var first []int
	for _, x := range l {
		x.Region = 0
		if x.Kind == api.Ref {
			x.Elem = first[x.Elem]
		}
		x.Fields = slices.Clone(x.Fields)
		for i, f := range x.Fields {
			x.Fields[i] = first[f]
		}
		i, found := types.Find(shaped, x)
		if !found {
			i = len(shaped)
		}
		shaped = append(shaped, x)
		first = append(first, i)
	}
	return first
}

// arbitraryType returns a type that may be added to a list with some types.
func arbitraryType(r *rand.Rand, n, regions int) api.Type {
	if n == 0 || r.Intn(12) == 0 {
		return api.Type{Kind: r.Intn(3)}
	}
	if r.Intn(3) == 0 {
		fields := []int{r.Intn(n), r.Intn(n), r.Intn(n)}
		return tuple(fields[:1+r.Intn(3)]...)
	}
	x := ref(r.Intn(regions), r.Intn(n))
	x.Mut = r.Intn(3) == 0
	return x
}

// arbitraryTypes returns a valid list of types.
func arbitraryTypes(r *rand.Rand, regions, most int) []api.Type {
	var l []api.Type
	for range most {
		longer := append(l, arbitraryType(r, min(len(l), 1+r.Intn(most)), regions))
		if types.Check(longer, regions) == api.OK {
			l = longer
		}
	}
	return l
}

// P7.4 and P7.5: arbitrary lists, compared with the model; Subtype is reflexive and transitive, and types that are subtypes of each other are of the same shape.
func TestSubtypesAgainstModel(t *testing.T) {
	random := rand.New(rand.NewSource(2))
	related := 0
	for range 250 {
		n := 1 + random.Intn(4)
		pairs := arbitraryPairs(random, n, 6)
		l := arbitraryTypes(random, n, 60)
		sub := checkSubtypes(t, pairs, n, l)
		shape := shapes(l)
		r := newRelation(t, pairs, n)
		for s := range l {
			checkSubtype(t, r, l, s, s, true)
			for u := range l {
				if !r.Subtype(l, s, u) {
					continue
				}
				if s != u {
					related++
				}
				if shape[s] != shape[u] {
					t.Errorf("%v: %d and %d have different shapes", l, s, u)
				}
				for v := range l {
					if sub[u][v] {
						checkSubtype(t, r, l, s, v, true)
					}
				}
			}
		}
	}
	if related < 1000 {
		t.Errorf("only %d types are subtypes of others", related)
	}
}

// twoChains returns two chains of types of a depth, and the indices of their last types. They start with the first two types of l.
func twoChains(l []api.Type, depth int, build func(level, i int) api.Type) ([]api.Type, int, int) {
	for level := range depth {
		l = append(l, build(level, len(l)-2), build(level, len(l)-1))
	}
	return l, len(l) - 2, len(l) - 1
}

// P1 of the document: types with parts in common, to which very many ways lead.
func TestSharedParts(t *testing.T) {
	base := []api.Type{integer, ref(0, 0), ref(1, 0)}
	r := newRelation(t, chain(2), 2)
	for _, c := range []struct {
		build            func(level, i int) api.Type
		forward, between bool
	}{
		{func(_, i int) api.Type { return tuple(i, i) }, true, false},
		{func(_, i int) api.Type { return tuple(i, 0, i, i) }, true, false},
		{func(_, i int) api.Type { return ref(0, i) }, true, false},
		{func(_, i int) api.Type { return mutRef(0, i) }, false, false},
		{func(level, i int) api.Type {
			if level%2 == 0 {
				return mutRef(0, i)
			}
			return tuple(i, i)
		}, false, false},
	} {
		l, s, u := twoChains(base, 30, c.build)
		if e := types.Check(l, 2); e != api.OK {
			t.Fatal(e)
		}
		checkSubtype(t, r, l, s, u, c.forward)
		checkSubtype(t, r, l, u, s, false)
		checkSubtype(t, r, l, s, s, true)
		same := newRelation(t, pairsOf([2]int{0, 1}, [2]int{1, 0}), 2)
		checkSubtype(t, same, l, s, u, true)
		checkSubtype(t, same, l, u, s, true)
	}
}

// P7.4: tuples of the greatest size, which differ in the last component only.
func TestGreatTuples(t *testing.T) {
	fields := make([]int, 65535)
	for i := range fields {
		fields[i] = 1 + i%3
	}
	last := slices.Clone(fields)
	last[65534] = 4
	l := []api.Type{integer, ref(0, 0), ref(1, 0), mutRef(0, 0), ref(2, 0), tuple(fields...), tuple(last...), tuple(fields[:65534]...), mutRef(0, 5), mutRef(0, 6)}
	r := newRelation(t, pairsOf([2]int{0, 2}), 3)
	for s := 5; s < len(l); s++ {
		for u := 5; u < len(l); u++ {
			checkSubtype(t, r, l, s, u, s == u)
		}
	}
	l[6].Fields[0], l[5].Fields[65534] = 4, 1
	checkSubtype(t, r, l, 5, 6, true)
	checkSubtype(t, r, l, 6, 5, false)
	checkSubtype(t, r, l, 8, 9, false)
	checkSubtype(t, r, l, 9, 8, false)
}

// P7.4: references with many regions in a relation with long ways.
func TestManyReferences(t *testing.T) {
	const n = 400
	r := newRelation(t, chain(n), n)
	l := []api.Type{integer}
	for i := range n {
		l = append(l, ref(i, 0))
	}
	l = append(l, tuple(count(1, n)...), tuple(count(2, n+1)...))
	checkSubtype(t, r, l, n+1, n+2, true)
	checkSubtype(t, r, l, n+2, n+1, false)
	for i := range n {
		checkSubtype(t, r, l, 1, 1+i, true)
		checkSubtype(t, r, l, 1+i, 1, i == 0)
	}
}

// P7.2 to P7.4: a nil relation has no regions and no subtypes.
func TestNilRelation(t *testing.T) {
	r, e := regions.New(pairsOf([2]int{0, 0}), 1)
	if r != nil || e != api.ErrArg {
		t.Fatalf("%v, %v", r, e)
	}
	for _, a := range append([]int{0, 1}, extremes...) {
		checkOutlives(t, r, a, a, false)
		checkOutlives(t, r, 0, a, false)
		checkClosure(t, r, []int{a, 0}, nil)
		checkSubtype(t, r, []api.Type{integer, boolean}, a, a, false)
	}
	checkClosure(t, r, nil, nil)
	checkSubtype(t, r, nil, 0, 0, false)
}

// P1 of the document: lists that are not valid have no specified subtypes, but the calls return.
func TestNotValid(t *testing.T) {
	deep := []api.Type{integer}
	for i := range 1 << 18 {
		deep = append(deep, mutRef(0, i))
	}
	lists := [][]api.Type{
		{ref(0, 0)}, {mutRef(0, 0)}, {tuple(0, 0)}, {mutRef(0, 1), mutRef(0, 0)}, {tuple(1, 0), tuple(0, 1)}, {integer, ref(0, 2), tuple(1, 0, 2)},
		{ref(-1, -1)}, {ref(5, math.MinInt), ref(0, math.MaxInt)}, {tuple(1 << 40), tuple(-1)}, {{Kind: 7, Fields: []int{0}}, {Kind: -1}}, {tuple(), tuple()},
		{{Kind: api.Int, Mut: true, Fields: []int{9}}, integer}, {tuple(count(0, 70000)...)},
	}
	for _, n := range []int{0, 1, 3} {
		r := newRelation(t, chain(max(n, 1)), n)
		for _, l := range lists {
			for s := -1; s < len(l)+1; s++ {
				for u := -1; u < len(l)+1; u++ {
					if first := r.Subtype(l, s, u); first != r.Subtype(l, s, u) {
						t.Errorf("%v: two results for %d and %d", show(l), s, u)
					}
				}
			}
		}
		r.Subtype(deep, len(deep)-1, len(deep)-1)
		r.Subtype(deep, len(deep)-1, len(deep)-2)
	}
}

// Rule 4 of the document: Subtype leaves the list as it is, and reads nothing behind the length of a slice.
func TestKeepsTypes(t *testing.T) {
	fields := []int{1, 2, 9, -1}
	memory := []api.Type{integer, ref(0, 0), ref(1, 0), tuple(fields[:2]...), tuple(2, 2), {Kind: 9}}
	var before []api.Type
	for _, x := range memory {
		x.Fields = slices.Clone(x.Fields)
		before = append(before, x)
	}
	checkSubtypes(t, chain(2), 2, memory[:5])
	if !reflect.DeepEqual(memory, before) || !slices.Equal(fields, []int{1, 2, 9, -1}) {
		t.Errorf("%v and %v were modified", memory, fields)
	}
	r := newRelation(t, chain(2), 2)
	checkSubtype(t, r, memory, 3, 4, true)
	memory[1].Region, memory[2].Region = 1, 0
	checkSubtype(t, r, memory, 3, 4, false)
	checkSubtype(t, r, memory, 4, 3, true)
}

// Rule 6 of the document: the functions may be called concurrently, with the same lists as well, each with its own relation.
func TestConcurrentCalls(t *testing.T) {
	pairs := chain(8)
	l := []api.Type{integer, ref(0, 0), ref(7, 0), mutRef(3, 1), mutRef(3, 2), tuple(1, 2, 3)}
	var group sync.WaitGroup
	for range 8 {
		group.Go(func() {
			for range 20 {
				checkSubtypes(t, pairs, 8, l)
				checkRelation(t, newRelation(t, pairs, 8), pairs, 8)
			}
		})
	}
	group.Wait()
}

// FuzzNew compares lists of pairs, and the relations of those that are valid, with the model.
func FuzzNew(f *testing.F) {
	f.Add([]byte{}, 0)
	f.Add([]byte{0, 1, 1, 2}, 3)
	f.Add([]byte{1, 2, 0, 1}, 3)
	f.Add([]byte{0, 1, 1, 2, 2, 0, 3, 3}, 4)
	f.Add([]byte{0, 5, 255, 1}, 5)
	f.Fuzz(func(t *testing.T, b []byte, n int) {
		var pairs [][2]int
		for ; len(b) > 1; b = b[2:] {
			pairs = append(pairs, [2]int{int(int8(b[0])), int(int8(b[1]))})
		}
		e := modelError(pairs, n)
		checkError(t, pairs, n, e)
		if e == api.OK && n <= 24 {
			checkRelation(t, newRelation(t, pairs, n), pairs, max(n, 0))
		}
	})
}

// FuzzSubtype compares Subtype with the model, for lists that are made of bytes.
func FuzzSubtype(f *testing.F) {
	f.Add(int64(1), 3, 12)
	f.Add(int64(2), 1, 40)
	f.Fuzz(func(t *testing.T, seed int64, n, most int) {
		if n < 1 || n > 8 || most < 1 || most > 60 {
			return
		}
		random := rand.New(rand.NewSource(seed))
		checkSubtypes(t, arbitraryPairs(random, n, 10), n, arbitraryTypes(random, n, most))
	})
}
