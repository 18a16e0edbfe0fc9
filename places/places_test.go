package places_test

import (
	"math"
	"math/rand"
	"reflect"
	"slices"
	"sync"
	"testing"

	"mirtower/api"
	"mirtower/places"
	"mirtower/types"
)

// unit, boolean and integer are the types without other fields.
var unit, boolean, integer = api.Type{Kind: api.Unit}, api.Type{Kind: api.Bool}, api.Type{Kind: api.Int}

// deref is the projection to what a reference refers to.
var deref = api.Proj{Kind: api.Deref}

// extremes are numbers that are no indices of any small list.
var extremes = []int{-1, -2, math.MinInt, math.MaxInt, math.MinInt32, math.MaxInt32, 1 << 17, 1 << 32, -1 << 32}

// ref returns a reference whose Mut is false.
func ref(region, elem int) api.Type { return api.Type{Kind: api.Ref, Region: region, Elem: elem} }

// mutRef returns a reference whose Mut is true.
func mutRef(region, elem int) api.Type {
	return api.Type{Kind: api.Ref, Mut: true, Region: region, Elem: elem}
}

// tuple returns a tuple.
func tuple(fields ...int) api.Type { return api.Type{Kind: api.Tuple, Fields: fields} }

// field returns the projection to a component of a tuple.
func field(i int) api.Proj { return api.Proj{Kind: api.Field, Field: i} }

// place returns a place.
func place(local int, projs ...api.Proj) api.Place {
	return api.Place{Local: local, Proj: slices.Clone(projs)}
}

// longer returns a place with more projections, in new memory.
func longer(p api.Place, projs ...api.Proj) api.Place {
	return api.Place{Local: p.Local, Proj: slices.Concat(p.Proj, projs)}
}

// first returns the prefix of a place that has n projections.
func first(p api.Place, n int) api.Place { return api.Place{Local: p.Local, Proj: p.Proj[:n]} }

// show returns the part of a place that is worth reading.
func show(p api.Place) api.Place { return first(p, min(len(p.Proj), 40)) }

// body has the lists on which the type of a place depends.
type body struct {
	types  []api.Type
	locals []api.Local
}

// bodyOf returns a body with one local of each type, in reverse order so that a local and its type differ.
func bodyOf(t *testing.T, l ...api.Type) body {
	t.Helper()
	if e := types.Check(l, 9); e != api.OK {
		t.Fatalf("%v: %v", l, e)
	}
	b := body{types: l}
	for i := range l {
		b.locals = append(b.locals, api.Local{Name: "x", Type: len(l) - 1 - i})
	}
	return b
}

// local returns the local of a type.
func (b body) local(i int) int { return len(b.types) - 1 - i }

// richBody returns a body in which all kinds of types are parts of others.
func richBody(t *testing.T) body {
	return bodyOf(t,
		unit, boolean, integer,
		ref(4, 2), mutRef(5, 2), // 3, 4
		tuple(3, 4, 2),          // 5
		mutRef(6, 5), ref(7, 5), // 6, 7
		tuple(6, 7),                            // 8
		mutRef(8, 8), ref(0, 9), mutRef(1, 10), // 9 to 11
		mutRef(5, 4), ref(5, 4), mutRef(5, 3), tuple(0), tuple(15, 1, 15, 6), // 12 to 16
	)
}

// modelForm returns the error of the form of a place.
func modelForm(p api.Place) api.Errno {
	if p.Local <= -1 {
		return api.ErrRange
	}
	if len(p.Proj) >= 33 {
		return api.ErrDepth
	}
	for _, x := range p.Proj {
		if x.Kind == 0 {
			if x.Field == 0 {
				continue
			}
			return api.ErrArg
		}
		if x.Kind != 1 {
			return api.ErrKind
		}
		if x.Field <= -1 {
			return api.ErrRange
		}
	}
	return api.OK
}

// typeOf is the model of TypeOf. It asks for the type of the place without its last projection first.
func (b body) typeOf(p api.Place) (int, api.Errno) {
	if e := modelForm(p); e != api.OK {
		return 0, e
	}
	if p.Local >= len(b.locals) {
		return 0, api.ErrRange
	}
	n := len(p.Proj)
	if n == 0 {
		return b.locals[p.Local].Type, api.OK
	}
	before, e := b.typeOf(first(p, n-1))
	if e != api.OK {
		return 0, e
	}
	x, last := b.types[before], p.Proj[n-1]
	switch {
	case x.Kind == api.Ref && last.Kind == api.Deref:
		return x.Elem, api.OK
	case x.Kind == api.Tuple && last.Kind == api.Field && last.Field >= len(x.Fields):
		return 0, api.ErrRange
	case x.Kind == api.Tuple && last.Kind == api.Field:
		return x.Fields[last.Field], api.OK
	}
	return 0, api.ErrType
}

// references is the model of Mutable and Regions.
func (b body) references(p api.Place) (bool, []int) {
	if _, e := b.typeOf(p); e != api.OK {
		return false, nil
	}
	mutable, regions := true, []int(nil)
	for n, x := range p.Proj {
		if x.Kind == api.Deref {
			i, _ := b.typeOf(first(p, n))
			mutable = mutable && b.types[i].Mut
			regions = append(regions, b.types[i].Region)
		}
	}
	return mutable, regions
}

// checkForm checks that a place has an error of its form, in the model as well.
func checkForm(t *testing.T, p api.Place, e api.Errno) {
	t.Helper()
	if got := places.Check(p); got != e {
		t.Errorf("Check(%v) = %v, want %v", show(p), got, e)
	}
	if want := modelForm(p); want != e {
		t.Errorf("%v: the model has %v, the test %v", show(p), want, e)
	}
}

// checkType checks that a place has a type or an error.
func checkType(t *testing.T, b body, p api.Place, want int, e api.Errno) {
	t.Helper()
	if got, gotE := places.TypeOf(b.types, b.locals, p); got != want || gotE != e {
		t.Errorf("TypeOf(%v) = %d, %v; want %d, %v", show(p), got, gotE, want, e)
	}
}

// checkRefs checks what is said of the references that a place dereferences.
func checkRefs(t *testing.T, b body, p api.Place, mutable bool, regions ...int) {
	t.Helper()
	if got := places.Mutable(b.types, b.locals, p); got != mutable {
		t.Errorf("Mutable(%v) = %v", show(p), got)
	}
	if got := places.Regions(b.types, b.locals, p); !slices.Equal(got, regions) {
		t.Errorf("Regions(%v) = %v, want %v", show(p), got, regions)
	}
}

// checkPlace compares all that is said of a place in a body with the model, and returns whether it has a type.
func checkPlace(t *testing.T, b body, p api.Place) bool {
	t.Helper()
	checkForm(t, p, modelForm(p))
	want, e := b.typeOf(p)
	checkType(t, b, p, want, e)
	mutable, regions := b.references(p)
	checkRefs(t, b, p, mutable, regions...)
	return e == api.OK
}

// checkPrefix checks a call of IsPrefix.
func checkPrefix(t *testing.T, p, q api.Place, want bool) {
	t.Helper()
	if got := places.IsPrefix(p, q); got != want {
		t.Errorf("IsPrefix(%v, %v) = %v", show(p), show(q), got)
	}
}

// checkEqual checks a call of Equal.
func checkEqual(t *testing.T, p, q api.Place, want bool) {
	t.Helper()
	if got := places.Equal(p, q); got != want {
		t.Errorf("Equal(%v, %v) = %v", show(p), show(q), got)
	}
}

// checkDeref checks a call of HasDeref.
func checkDeref(t *testing.T, p api.Place, from int, want bool) {
	t.Helper()
	if got := places.HasDeref(p, from); got != want {
		t.Errorf("HasDeref(%v, %d) = %v", show(p), from, got)
	}
}

// P8.1 to P8.4: the examples of the chapter and of the document.
func TestExamples(t *testing.T) {
	b := body{[]api.Type{integer, mutRef(1, 0), tuple(1, 0)}, []api.Local{{Name: "x", Type: 2}}}
	p := place(0, field(0), deref)
	checkForm(t, p, api.OK)
	checkType(t, b, p, 0, api.OK)
	checkRefs(t, b, p, true, 1)
	checkType(t, b, place(0, field(2)), 0, api.ErrRange)
	checkType(t, b, place(0, deref), 0, api.ErrType)
	b = body{[]api.Type{boolean, integer, tuple(1, 0), ref(0, 2)}, []api.Local{{Name: "x", Type: 3}}}
	checkType(t, b, place(0, deref, field(0)), 1, api.OK)
	checkRefs(t, b, place(0, deref, field(0)), false, 0)
}

// P8.1: each error, and the order of the errors of a place and of a projection.
func TestForms(t *testing.T) {
	for _, c := range []struct {
		p api.Place
		e api.Errno
	}{
		{api.Place{}, api.OK},
		{place(0), api.OK},
		{place(7, deref), api.OK},
		{place(math.MaxInt, field(0), field(math.MaxInt), deref, deref), api.OK},
		{place(-1), api.ErrRange},
		{place(math.MinInt), api.ErrRange},
		{place(-1, api.Proj{Kind: 9}), api.ErrRange},
		{place(-1, slices.Repeat([]api.Proj{deref}, 33)...), api.ErrRange},
		{place(0, slices.Repeat([]api.Proj{deref}, 32)...), api.OK},
		{place(0, slices.Repeat([]api.Proj{deref}, 33)...), api.ErrDepth},
		{place(0, slices.Repeat([]api.Proj{{Kind: 2}}, 32)...), api.ErrKind},
		{place(0, slices.Repeat([]api.Proj{{Kind: 2}}, 33)...), api.ErrDepth},
		{place(0, slices.Repeat([]api.Proj{field(-1)}, 70000)...), api.ErrDepth},
		{place(0, api.Proj{Kind: 2}), api.ErrKind},
		{place(0, api.Proj{Kind: -1}), api.ErrKind},
		{place(0, api.Proj{Kind: 2, Field: -1}), api.ErrKind},
		{place(0, api.Proj{Kind: -1, Field: 1}), api.ErrKind},
		{place(0, api.Proj{Kind: api.Deref, Field: 1}), api.ErrArg},
		{place(0, api.Proj{Kind: api.Deref, Field: -1}), api.ErrArg},
		{place(0, field(-1)), api.ErrRange},
		{place(0, field(math.MinInt)), api.ErrRange},
	} {
		checkForm(t, c.p, c.e)
	}
}

// P8.1: the first projection with an error decides, wherever it is and whatever follows it.
func TestFirstProjection(t *testing.T) {
	bad := []struct {
		x api.Proj
		e api.Errno
	}{
		{api.Proj{Kind: 2}, api.ErrKind}, {api.Proj{Kind: -1, Field: -1}, api.ErrKind},
		{api.Proj{Kind: api.Deref, Field: 1}, api.ErrArg}, {api.Proj{Kind: api.Deref, Field: -1}, api.ErrArg}, {field(-1), api.ErrRange},
	}
	for n := range 31 {
		p := place(n, slices.Repeat([]api.Proj{deref, field(n)}, 16)[:n]...)
		checkForm(t, p, api.OK)
		for _, x := range bad {
			checkForm(t, longer(p, x.x), x.e)
			for _, y := range bad {
				checkForm(t, longer(p, x.x, y.x), x.e)
			}
		}
	}
}

// P8.1: any numbers in any fields.
func TestNumbers(t *testing.T) {
	numbers := append([]int{0, 1, 2, 3, 65535, 65536}, extremes...)
	b := richBody(t)
	for _, x := range numbers {
		checkPlace(t, b, place(x))
		for _, y := range numbers {
			checkPlace(t, b, place(x, api.Proj{Kind: y}))
			for _, z := range numbers {
				checkPlace(t, b, place(x, api.Proj{Kind: y, Field: z}))
				checkPlace(t, b, place(b.local(5), api.Proj{Kind: x, Field: y}, api.Proj{Kind: api.Field, Field: z}))
			}
		}
	}
}

// P8.2: a type, or the first error: of the form, of the local, and of the projections in order.
func TestTypes(t *testing.T) {
	b := richBody(t)
	for _, c := range []struct {
		p    api.Place
		want int
		e    api.Errno
	}{
		{place(b.local(0)), 0, api.OK},
		{place(b.local(8)), 8, api.OK},
		{place(b.local(3), deref), 2, api.OK},
		{place(b.local(4), deref), 2, api.OK},
		{place(b.local(5), field(0)), 3, api.OK},
		{place(b.local(5), field(2)), 2, api.OK},
		{place(b.local(9), deref, field(1), deref, field(1), deref), 2, api.OK},
		{place(b.local(16), field(2), field(0)), 0, api.OK},
		{place(b.local(5), field(3)), 0, api.ErrRange},
		{place(b.local(5), field(math.MaxInt)), 0, api.ErrRange},
		{place(b.local(5), deref), 0, api.ErrType},
		{place(b.local(3), field(0)), 0, api.ErrType},
		{place(b.local(3), field(9)), 0, api.ErrType},
		{place(b.local(0), deref), 0, api.ErrType},
		{place(b.local(1), field(0)), 0, api.ErrType},
		{place(b.local(2), field(7)), 0, api.ErrType},
		{place(b.local(6), deref, deref), 0, api.ErrType},
		{place(b.local(6), deref, field(3)), 0, api.ErrRange},
		{place(b.local(6), field(0), field(3)), 0, api.ErrType},
		{place(b.local(6), deref, field(3), field(0)), 0, api.ErrRange},
		{place(b.local(6), deref, field(2), deref), 0, api.ErrType},
		{place(b.local(6), deref, field(2), field(9)), 0, api.ErrType},
		{place(17), 0, api.ErrRange},
		{place(math.MaxInt), 0, api.ErrRange},
		{place(17, deref), 0, api.ErrRange},
		{place(-1), 0, api.ErrRange},
		{place(17, api.Proj{Kind: 2}), 0, api.ErrKind},
		{place(17, api.Proj{Kind: api.Deref, Field: 1}), 0, api.ErrArg},
		{place(17, slices.Repeat([]api.Proj{deref}, 33)...), 0, api.ErrDepth},
		{place(b.local(0), slices.Repeat([]api.Proj{deref}, 32)...), 0, api.ErrType},
		{place(b.local(0), slices.Repeat([]api.Proj{deref}, 33)...), 0, api.ErrDepth},
		{place(b.local(0), deref, field(-1)), 0, api.ErrRange},
		{place(b.local(0), deref, api.Proj{Kind: -1}), 0, api.ErrKind},
		{place(b.local(5), field(3), api.Proj{Kind: api.Deref, Field: 2}), 0, api.ErrArg},
		{place(b.local(3), api.Proj{Kind: api.Deref, Field: 1}), 0, api.ErrArg},
	} {
		checkType(t, b, c.p, c.want, c.e)
		checkPlace(t, b, c.p)
	}
}

// P8.2 to P8.4: no locals and no types.
func TestEmptyLists(t *testing.T) {
	none := body{}
	empty := body{[]api.Type{}, []api.Local{}}
	unused := body{types: []api.Type{integer, ref(0, 0)}}
	for _, b := range []body{none, empty, unused} {
		for _, p := range []api.Place{{}, place(0), place(0, deref), place(1), place(-1), place(0, field(-1))} {
			if checkPlace(t, b, p) {
				t.Errorf("%v has a type", p)
			}
		}
	}
}

// P8.2 to P8.4: all places of few projections in a body with all kinds of types.
func TestSmallPlaces(t *testing.T) {
	b := richBody(t)
	projs := []api.Proj{deref, field(0), field(1), field(2), field(3), field(-1), {Kind: 2}, {Kind: api.Deref, Field: 1}}
	typed := 0
	for local := -1; local <= len(b.locals); local++ {
		level := []api.Place{place(local)}
		for range 5 {
			var next []api.Place
			for _, p := range level {
				if checkPlace(t, b, p) {
					typed++
				}
				for _, x := range projs {
					next = append(next, longer(p, x))
				}
			}
			level = next
		}
	}
	if typed < 90 {
		t.Errorf("only %d places have types", typed)
	}
}

// P8.2 to P8.4: the places of the greatest depth that have types.
func TestDeepTypes(t *testing.T) {
	l := []api.Type{integer}
	for i := range 31 {
		l = append(l, mutRef(i%9, i))
	}
	b := bodyOf(t, l...)
	top := place(b.local(31))
	var regions []int
	for n := range 32 {
		checkType(t, b, top, 31-n, api.OK)
		checkRefs(t, b, top, true, regions...)
		top = longer(top, deref)
		regions = append(regions, (30-n)%9)
	}
	checkType(t, b, top, 0, api.ErrType)
	checkRefs(t, b, top, false)
	checkType(t, b, longer(top, deref), 0, api.ErrDepth)
	checkRefs(t, b, longer(top, deref), false)
	for i := range 31 {
		b.types[i+1].Mut = false
		checkRefs(t, b, first(top, 31), false, regions[:31]...)
		checkRefs(t, b, first(top, 30-i), true, regions[:30-i]...)
		b.types[i+1].Mut = true
	}
}

// P8.2: the first and the last component of the greatest tuple.
func TestGreatTuple(t *testing.T) {
	fields := slices.Repeat([]int{1}, 65535)
	fields[65534] = 0
	b := bodyOf(t, boolean, integer, tuple(fields...))
	checkType(t, b, place(b.local(2), field(0)), 1, api.OK)
	checkType(t, b, place(b.local(2), field(65533)), 1, api.OK)
	checkType(t, b, place(b.local(2), field(65534)), 0, api.OK)
	checkType(t, b, place(b.local(2), field(65535)), 0, api.ErrRange)
}

// variants returns places of which no two are equal, with any values in any fields.
func variants() []api.Place {
	l := []api.Place{{}}
	projs := []api.Proj{deref, field(0), field(1), {Kind: api.Deref, Field: 1}, {Kind: 2}, {Kind: 2, Field: 1}}
	for _, n := range extremes {
		l = append(l, place(n), place(n, deref), place(0, field(n)), place(0, api.Proj{Kind: n}), place(0, api.Proj{Kind: api.Deref, Field: n}))
	}
	for _, local := range []int{1, 7} {
		l = append(l, place(local), place(local, field(0)), place(local, deref, field(1)))
	}
	for _, x := range projs {
		l = append(l, place(0, x))
		for _, y := range projs {
			l = append(l, place(0, x, y), place(0, x, y, x), place(0, x, y, y, deref))
		}
	}
	return l
}

// begins reports whether the projections of p are the first ones of q, from the last one of p on.
func begins(p, q api.Place) bool {
	for i := len(p.Proj) - 1; i >= 0; i-- {
		if i >= len(q.Proj) || p.Proj[i] != q.Proj[i] {
			return false
		}
	}
	return p.Local == q.Local
}

// P8.3: each pair of places; an empty slice is equal to nil.
func TestPairs(t *testing.T) {
	l := variants()
	for i, p := range l {
		for j, q := range l {
			checkEqual(t, p, q, i == j)
			checkPrefix(t, p, q, begins(p, q))
		}
		again := api.Place{Local: p.Local, Proj: append([]api.Proj{}, p.Proj...)}
		checkEqual(t, p, again, true)
		checkEqual(t, again, p, true)
		checkPrefix(t, p, again, true)
	}
	checkEqual(t, api.Place{Proj: []api.Proj{}}, api.Place{}, true)
	checkPrefix(t, api.Place{}, api.Place{Proj: []api.Proj{}}, true)
	checkPrefix(t, api.Place{Proj: []api.Proj{}}, api.Place{}, true)
}

// P8.3: prefixes that are written out.
func TestPrefixes(t *testing.T) {
	for _, c := range []struct {
		p, q api.Place
		want bool
	}{
		{place(0), place(0), true},
		{place(0), place(1), false},
		{place(0), place(0, deref), true},
		{place(0, deref), place(0), false},
		{place(0), place(1, deref), false},
		{place(0, field(1)), place(0, field(1), deref), true},
		{place(0, field(1)), place(0, field(0), deref), false},
		{place(0, field(0)), place(0, deref, field(0)), false},
		{place(0, deref), place(0, field(0)), false},
		{place(0, deref, field(2)), place(0, deref, field(2), field(0)), true},
		{place(0, deref, field(2)), place(0, deref, field(3), field(0)), false},
		{place(0, deref, field(2), deref), place(0, deref, field(2)), false},
		{place(-3, api.Proj{Kind: 7, Field: -1}), place(-3, api.Proj{Kind: 7, Field: -1}, field(-2)), true},
	} {
		checkPrefix(t, c.p, c.q, c.want)
	}
}

// P8.5: IsPrefix is reflexive, antisymmetric and transitive.
func TestPartialOrder(t *testing.T) {
	l := variants()
	for _, p := range l {
		checkPrefix(t, p, p, true)
		for _, q := range l {
			if !places.IsPrefix(p, q) {
				continue
			}
			if places.IsPrefix(q, p) {
				checkEqual(t, p, q, true)
			}
			for _, x := range l {
				if places.IsPrefix(q, x) {
					checkPrefix(t, p, x, true)
				}
			}
		}
	}
}

// P8.3: the index from which on a projection counts, which may be any number; and projections of unknown kinds.
func TestHasDeref(t *testing.T) {
	p := place(0, field(0), deref, field(2), api.Proj{Kind: api.Deref, Field: 5}, field(0), api.Proj{Kind: 2})
	for from, want := range []bool{true, true, true, true, false, false, false, false} {
		checkDeref(t, p, from, want)
	}
	all := place(-1, slices.Repeat([]api.Proj{deref}, 70000)...)
	none := place(3, slices.Repeat([]api.Proj{field(0), {Kind: 2}, {Kind: -1}}, 20000)...)
	for _, from := range extremes {
		checkDeref(t, p, from, from < 0)
		checkDeref(t, all, from, from < 0)
		checkDeref(t, none, from, false)
		checkDeref(t, place(0), from, false)
	}
	checkDeref(t, all, 69999, true)
	checkDeref(t, all, 70000, false)
	checkDeref(t, longer(none, deref), 60000, true)
	checkDeref(t, longer(none, deref), 60001, false)
	checkDeref(t, place(0), 0, false)
	checkDeref(t, place(0, deref), 0, true)
	checkDeref(t, place(0, deref), 1, false)
}

// P8.3: places of any length, which differ at their end only.
func TestLongPlaces(t *testing.T) {
	p := place(5, slices.Repeat([]api.Proj{deref, field(3)}, 40000)...)
	q := place(5, p.Proj...)
	checkEqual(t, p, q, true)
	checkPrefix(t, p, q, true)
	checkPrefix(t, first(p, 79999), q, true)
	checkPrefix(t, p, first(q, 79999), false)
	checkEqual(t, p, first(q, 79999), false)
	q.Proj[79999].Field++
	checkEqual(t, p, q, false)
	checkPrefix(t, p, q, false)
	checkPrefix(t, first(p, 79999), q, true)
	checkForm(t, p, api.ErrDepth)
	checkPlace(t, richBody(t), p)
}

// P8.4: references in a place of which some are mutable; a reference that is only reached does not count.
func TestReferences(t *testing.T) {
	b := richBody(t)
	for _, c := range []struct {
		p       api.Place
		mutable bool
		regions []int
	}{
		{place(b.local(2)), true, nil},
		{place(b.local(3)), true, nil},
		{place(b.local(4)), true, nil},
		{place(b.local(3), deref), false, []int{4}},
		{place(b.local(4), deref), true, []int{5}},
		{place(b.local(5), field(0)), true, nil},
		{place(b.local(5), field(0), deref), false, []int{4}},
		{place(b.local(5), field(1), deref), true, []int{5}},
		{place(b.local(6), deref, field(0)), true, []int{6}},
		{place(b.local(6), deref, field(0), deref), false, []int{6, 4}},
		{place(b.local(7), deref, field(1), deref), false, []int{7, 5}},
		{place(b.local(9), deref, field(0), deref, field(1), deref), true, []int{8, 6, 5}},
		{place(b.local(11), deref, deref, deref, field(0), deref, field(0), deref), false, []int{1, 0, 8, 6, 4}},
		{place(b.local(12), deref, deref), true, []int{5, 5}},
		{place(b.local(13), deref, deref), false, []int{5, 5}},
		{place(b.local(14), deref), true, []int{5}},
		{place(b.local(14), deref, deref), false, []int{5, 4}},
		{place(b.local(4), deref, deref), false, nil},
		{place(b.local(4), field(0)), false, nil},
		{place(b.local(6), deref, field(3)), false, nil},
		{place(b.local(9), deref, field(0), deref, field(2), deref), false, nil},
		{place(17), false, nil},
		{place(-1), false, nil},
		{place(b.local(4), api.Proj{Kind: api.Deref, Field: 1}), false, nil},
		{place(b.local(5), field(-1)), false, nil},
		{place(b.local(4), deref, api.Proj{Kind: 2}), false, nil},
	} {
		checkRefs(t, b, c.p, c.mutable, c.regions...)
		checkPlace(t, b, c.p)
	}
}

// arbitraryBody returns a body with a valid list of types.
func arbitraryBody(r *rand.Rand, most int) body {
	var b body
	for range most {
		x := api.Type{Kind: r.Intn(3)}
		if n := len(b.types); n > 0 && r.Intn(8) > 0 {
			x = api.Type{Kind: api.Ref, Mut: r.Intn(3) > 0, Region: r.Intn(9), Elem: n - 1 - r.Intn(min(n, 4))}
			if r.Intn(3) == 0 {
				x = tuple([]int{r.Intn(n), n - 1, r.Intn(n)}[:1+r.Intn(3)]...)
			}
		}
		if types.Check(append(slices.Clone(b.types), x), 9) == api.OK {
			b.types = append(b.types, x)
		}
	}
	for range r.Intn(6) {
		b.locals = append(b.locals, api.Local{Name: "x", Type: r.Intn(len(b.types))})
	}
	return b
}

// arbitraryPlace returns a place, which most often has a type in a body if there is any.
func arbitraryPlace(r *rand.Rand, b body) api.Place {
	p := place(r.Intn(len(b.locals) + 1))
	for range r.Intn(34) {
		i, e := b.typeOf(p)
		x := api.Proj{Kind: r.Intn(2)}
		if e == api.OK && r.Intn(16) > 0 {
			x.Kind = api.Deref
			if b.types[i].Kind == api.Tuple {
				x = field(r.Intn(len(b.types[i].Fields)))
			} else if b.types[i].Kind != api.Ref && r.Intn(8) > 0 {
				break
			}
		}
		if r.Intn(64) == 0 {
			x = api.Proj{Kind: r.Intn(5) - 1, Field: r.Intn(5) - 1}
		}
		p = longer(p, x)
	}
	return p
}

// P8.1 to P8.5: arbitrary places, compared with the model; a prefix of a place with a type has a type, and a prefix of a mutable place is mutable.
func TestAgainstModel(t *testing.T) {
	r := rand.New(rand.NewSource(1))
	typed, mutable := 0, 0
	for range 600 {
		b := arbitraryBody(r, 40)
		for range 40 {
			p := arbitraryPlace(r, b)
			hasType := checkPlace(t, b, p)
			canWrite := places.Mutable(b.types, b.locals, p)
			regions := places.Regions(b.types, b.locals, p)
			for n := range len(p.Proj) + 1 {
				q := first(p, n)
				checkPrefix(t, q, p, true)
				if hasType && !checkPlace(t, b, q) {
					t.Errorf("%v has a type, but %v has none", p, q)
				}
				if canWrite && !places.Mutable(b.types, b.locals, q) {
					t.Errorf("%v is mutable, but %v is not", p, q)
				}
				if prefix := places.Regions(b.types, b.locals, q); hasType && !slices.Equal(prefix, regions[:len(prefix)]) {
					t.Errorf("%v: %v, but %v: %v", p, regions, q, prefix)
				}
			}
			if hasType && len(p.Proj) > 2 {
				typed++
			}
			if canWrite && len(regions) > 1 {
				mutable++
			}
		}
	}
	if typed < 3000 || mutable < 500 {
		t.Errorf("only %d places have types, and %d are mutable", typed, mutable)
	}
}

// P1 of the document: lists that are not valid have no specified types, but the calls return.
func TestNotValid(t *testing.T) {
	lists := [][]api.Type{
		nil, {ref(0, 0)}, {mutRef(0, 0)}, {tuple(0, 0)}, {mutRef(0, 1), mutRef(0, 0)}, {integer, ref(0, 9), tuple(1, 0, 2)}, {ref(-1, -1)},
		{ref(5, math.MinInt), ref(0, math.MaxInt)}, {tuple(1 << 40), tuple(-1)}, {{Kind: 7, Fields: []int{0}}, {Kind: -1}}, {tuple(), tuple()},
	}
	r := rand.New(rand.NewSource(2))
	for _, l := range lists {
		var locals []api.Local
		for _, i := range append([]int{0, 1, 2}, extremes...) {
			locals = append(locals, api.Local{Type: i})
		}
		for range 500 {
			p := place(r.Intn(len(locals) + 1))
			for range r.Intn(33) {
				p.Proj = append(p.Proj, []api.Proj{deref, field(0), field(1)}[r.Intn(3)])
			}
			i, e := places.TypeOf(l, locals, p)
			again, againE := places.TypeOf(l, locals, p)
			if i != again || e != againE || e != api.OK && i != 0 {
				t.Errorf("%v: TypeOf(%v) = %d, %v and %d, %v", l, p, i, e, again, againE)
			}
			if places.Mutable(l, locals, p) && e != api.OK || len(places.Regions(l, locals, p)) > 0 && e != api.OK {
				t.Errorf("%v: %v has no type", l, p)
			}
		}
	}
}

// Rule 4 of the document: arguments are not modified, and nothing behind the length of a slice is read.
func TestKeepsArguments(t *testing.T) {
	fields := []int{1, 0, 1}
	list := []api.Type{integer, mutRef(3, 0), tuple(fields[:2]...), ref(4, 2)}
	locals := []api.Local{{Name: "x", Type: 2}, {Name: "y", Type: 1}, {Name: "z", Type: 0}}
	projs := []api.Proj{field(0), deref, {Kind: 9}, field(1)}
	copies := []any{slices.Clone(list), slices.Clone(locals), slices.Clone(projs)}
	b := body{list[:3], locals[:2]}
	p := api.Place{Proj: projs[:2]}
	checkType(t, b, p, 0, api.OK)
	checkRefs(t, b, p, true, 3)
	checkForm(t, p, api.OK)
	checkType(t, b, place(0, field(2)), 0, api.ErrRange)
	checkType(t, b, place(2), 0, api.ErrRange)
	checkPrefix(t, place(0, projs...), p, false)
	checkPrefix(t, first(p, 1), place(0, field(0)), true)
	checkEqual(t, p, place(0, field(0), deref), true)
	checkDeref(t, first(p, 1), 0, false)
	if !reflect.DeepEqual(copies, []any{list, locals, projs}) || !slices.Equal(fields, []int{1, 0, 1}) {
		t.Errorf("%v, %v, %v and %v were modified", list, locals, projs, fields)
	}
}

// Rules 4 and 6 of the document: a result does not depend on earlier calls, and shares no memory with another result.
func TestRegionsAreSeparate(t *testing.T) {
	b := bodyOf(t, integer, mutRef(3, 0), mutRef(4, 1))
	p := place(b.local(2), deref, deref)
	one, two := places.Regions(b.types, b.locals, p), places.Regions(b.types, b.locals, p)
	clear(one)
	_ = append(one, 7)
	if !slices.Equal(two, []int{4, 3}) {
		t.Errorf("%v: shared with another result", two)
	}
	b.types[1].Region, b.types[2].Mut = 5, false
	checkRefs(t, b, p, false, 4, 5)
	b.locals[p.Local].Type = 1
	checkRefs(t, b, p, false)
	checkRefs(t, b, first(p, 1), true, 5)
}

// Rule 6 of the document: the functions may be called concurrently, with the same lists as well.
func TestConcurrentCalls(t *testing.T) {
	b := richBody(t)
	l := variants()
	var group sync.WaitGroup
	for range 8 {
		group.Go(func() {
			for i, p := range l {
				checkPlace(t, b, p)
				checkEqual(t, p, l[0], i == 0)
				checkPrefix(t, p, l[0], begins(p, l[0]))
				checkPlace(t, b, place(i%17, deref, field(0), deref))
			}
		})
	}
	group.Wait()
}

// FuzzTypeOf compares places, which are made of bytes, with the model.
func FuzzTypeOf(f *testing.F) {
	f.Add(int64(1), 0, []byte{})
	f.Add(int64(2), 1, []byte{1, 0, 0, 0})
	f.Add(int64(3), -1, []byte{0, 0, 0, 1, 2, 0})
	f.Add(int64(4), 0, []byte{1, 255})
	f.Fuzz(func(t *testing.T, seed int64, local int, b []byte) {
		lists := arbitraryBody(rand.New(rand.NewSource(seed)), 30)
		p := place(local)
		for ; len(b) > 1; b = b[2:] {
			p.Proj = append(p.Proj, api.Proj{Kind: int(int8(b[0])), Field: int(int8(b[1]))})
		}
		checkPlace(t, lists, p)
		for n := range len(p.Proj) + 1 {
			checkPrefix(t, first(p, n), p, true)
			checkPrefix(t, p, first(p, n), n == len(p.Proj))
			checkEqual(t, p, first(p, n), n == len(p.Proj))
			checkDeref(t, p, n, slices.ContainsFunc(p.Proj[n:], func(x api.Proj) bool { return x.Kind == api.Deref }))
		}
	})
}
