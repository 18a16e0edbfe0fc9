package types_test

import (
	"math"
	"math/rand"
	"reflect"
	"runtime/debug"
	"slices"
	"sync"
	"testing"

	"mirtower/api"
	"mirtower/types"
)

// unit, boolean and integer are the types without other fields.
var unit, boolean, integer = api.Type{Kind: api.Unit}, api.Type{Kind: api.Bool}, api.Type{Kind: api.Int}

// extremes are numbers that are not indices of any list here, or only of some.
var extremes = []int{-1, -2, math.MinInt, math.MaxInt, math.MinInt32, math.MaxInt32, 1 << 16, 1 << 32, -1 << 32}

// ref returns a reference whose Mut is false.
func ref(region, elem int) api.Type { return api.Type{Kind: api.Ref, Region: region, Elem: elem} }

// mutRef returns a reference whose Mut is true.
func mutRef(region, elem int) api.Type {
	return api.Type{Kind: api.Ref, Mut: true, Region: region, Elem: elem}
}

// tuple returns a tuple.
func tuple(fields ...int) api.Type { return api.Type{Kind: api.Tuple, Fields: fields} }

// list returns a list of types in new memory.
func list(l ...api.Type) []api.Type { return slices.Clone(l) }

// same reports whether all fields of two types are equal, an empty slice being nil or not.
func same(a, b api.Type) bool {
	if len(a.Fields) != len(b.Fields) {
		return false
	}
	for i := range a.Fields {
		if a.Fields[i] != b.Fields[i] {
			return false
		}
	}
	return a.Kind == b.Kind && a.Mut == b.Mut && a.Region == b.Region && a.Elem == b.Elem
}

// model is what the chapter says of a list that is valid.
type model struct {
	depths   []int
	regions  [][]int
	copyable []bool
}

// components returns the indices of the types that a type refers to.
func components(t api.Type) []int {
	if t.Kind == api.Ref {
		return []int{t.Elem}
	}
	return t.Fields
}

// add adds the properties of a type, given that its components have been added.
func (m *model) add(t api.Type) {
	depth, copyable, regions := 1, t.Kind != api.Ref || !t.Mut, []int{}
	if t.Kind == api.Ref {
		regions = append(regions, t.Region)
	}
	for _, c := range components(t) {
		depth = max(depth, 1+m.depths[c])
		copyable = copyable && (t.Kind == api.Ref || m.copyable[c])
		regions = append(regions, m.regions[c]...)
	}
	slices.Sort(regions)
	m.depths = append(m.depths, depth)
	m.copyable = append(m.copyable, copyable)
	m.regions = append(m.regions, slices.Compact(regions))
}

// elementError returns the error of the element i of a list, given that the earlier ones have none.
func (m *model) elementError(l []api.Type, i, regions int) api.Errno {
	t := l[i]
	var unused api.Type
	switch t.Kind {
	case api.Unit, api.Bool, api.Int:
		unused = t
	case api.Ref:
		unused.Fields = t.Fields
	case api.Tuple:
		unused = t
		unused.Fields = nil
	default:
		return api.ErrKind
	}
	if unused.Mut || unused.Region != 0 || unused.Elem != 0 || len(unused.Fields) != 0 {
		return api.ErrArg
	}
	if t.Kind == api.Ref && (t.Region < 0 || t.Region >= regions) {
		return api.ErrRange
	}
	for _, c := range components(t) {
		if c < 0 || c >= i {
			return api.ErrRange
		}
	}
	if t.Kind == api.Tuple && (len(t.Fields) < 1 || len(t.Fields) > 65535) {
		return api.ErrLimit
	}
	m.add(t)
	if m.depths[i] > 32 {
		return api.ErrDepth
	}
	for _, earlier := range l[:i] {
		if same(earlier, t) {
			return api.ErrDuplicate
		}
	}
	return api.OK
}

// modelOf checks a list and computes the properties of its elements.
func modelOf(l []api.Type, regions int) (*model, api.Errno) {
	m := new(model)
	if len(l) > 65535 {
		return m, api.ErrLimit
	}
	for i := range l {
		if e := m.elementError(l, i, regions); e != api.OK {
			return m, e
		}
	}
	return m, api.OK
}

// checkError checks that a list has an error, in the model as well.
func checkError(t *testing.T, l []api.Type, regions int, e api.Errno) {
	t.Helper()
	if got := types.Check(l, regions); got != e {
		t.Errorf("Check(%v, %d) = %v, want %v", show(l), regions, got, e)
	}
	if _, want := modelOf(l, regions); want != e {
		t.Errorf("%v, %d: the model has %v, the test %v", show(l), regions, want, e)
	}
}

// show returns the part of a list that is worth reading.
func show(l []api.Type) []api.Type {
	if len(l) > 40 {
		return l[len(l)-40:]
	}
	return l
}

// checkFind checks a call of Find.
func checkFind(t *testing.T, l []api.Type, x api.Type, i int, ok bool) {
	t.Helper()
	if got, is := types.Find(l, x); got != i || is != ok {
		t.Errorf("Find(%v, %v) = %d, %v; want %d, %v", show(l), x, got, is, i, ok)
	}
}

// checkProperties checks what is computed for an index of a list.
func checkProperties(t *testing.T, l []api.Type, i, depth int, regions []int, copyable bool) {
	t.Helper()
	if got := types.Depth(l, i); got != depth {
		t.Errorf("%v: Depth of %d is %d, want %d", show(l), i, got, depth)
	}
	if got := types.Regions(l, i); !slices.Equal(got, regions) {
		t.Errorf("%v: Regions of %d are %v, want %v", show(l), i, got, regions)
	}
	if got := types.Copyable(l, i); got != copyable {
		t.Errorf("%v: Copyable of %d is %v, want %v", show(l), i, got, copyable)
	}
}

// checkValid checks that a list is valid, and all that the chapter says of its elements and of its earlier parts.
func checkValid(t *testing.T, l []api.Type, regions int) {
	t.Helper()
	m, e := modelOf(l, regions)
	if e != api.OK {
		t.Errorf("%v, %d: the model has %v", show(l), regions, e)
		return
	}
	for i, x := range l {
		checkProperties(t, l, i, m.depths[i], m.regions[i], m.copyable[i])
		checkFind(t, l, x, i, true)
	}
	for n := range len(l) + 1 {
		if e := types.Check(l[:n], regions); e != api.OK {
			t.Errorf("Check(%v, %d) = %v", show(l[:n]), regions, e)
		}
	}
	for _, i := range append([]int{len(l), len(l) + 1}, extremes...) {
		checkProperties(t, l, i, 0, nil, false)
	}
}

// checkModel compares a list with the model.
func checkModel(t *testing.T, l []api.Type, regions int) {
	t.Helper()
	if _, e := modelOf(l, regions); e != api.OK {
		checkError(t, l, regions, e)
		return
	}
	checkValid(t, l, regions)
}

// chain returns a list of a number of types, each of which is built of the one before.
func chain(n int, build func(i int) api.Type) []api.Type {
	l := list(integer)
	for i := range n - 1 {
		l = append(l, build(i))
	}
	return l
}

// builders build a type of the one with an index, in each way.
func builders() []func(i int) api.Type {
	return []func(i int) api.Type{
		func(i int) api.Type { return ref(0, i) },
		func(i int) api.Type { return mutRef(2, i) },
		func(i int) api.Type { return tuple(i) },
		func(i int) api.Type { return tuple(0, i) },
		func(i int) api.Type { return tuple(i, 0) },
		func(i int) api.Type { return tuple(i, i, i) },
		func(i int) api.Type {
			if i%2 == 0 {
				return ref(i%3, i)
			}
			return tuple(i, i/2)
		},
	}
}

// doubled returns a list with a depth, in which a number of ways that is exponential in the depth lead to the first element.
func doubled(depth int) []api.Type {
	return chain(depth, func(i int) api.Type { return tuple(i, i) })
}

// many returns a list of n types without two equal ones, n being at least 300.
func many(n int) []api.Type {
	l := list(unit, boolean, integer)
	for i := range 290 {
		l = append(l, ref(i, i%3))
	}
	for i := 0; len(l) < n; i++ {
		l = append(l, tuple(i/290+3, i%290+3))
	}
	return l
}

// count returns 0, ..., n-1 modulo some number.
func count(n, modulus int) []int {
	l := make([]int, n)
	for i := range l {
		l[i] = i % modulus
	}
	return l
}

// P6.1 to P6.3: the examples of the chapter.
func TestExamples(t *testing.T) {
	l := list(integer, ref(0, 0), tuple(1, 0))
	checkValid(t, l, 1)
	checkProperties(t, l, 2, 3, []int{0}, true)
	checkError(t, list(integer, integer), 1, api.ErrDuplicate)
}

// P6.1 and P6.3: lists that are written out, with the properties of the last element.
func TestValid(t *testing.T) {
	for _, c := range []struct {
		l        []api.Type
		depth    int
		regions  []int
		copyable bool
	}{
		{list(unit), 1, nil, true},
		{list(boolean), 1, nil, true},
		{list(integer), 1, nil, true},
		{list(integer, boolean, unit), 1, nil, true},
		{list(unit, ref(4, 0)), 2, []int{4}, true},
		{list(unit, mutRef(4, 0)), 2, []int{4}, false},
		{list(unit, mutRef(4, 0), ref(3, 1)), 3, []int{3, 4}, true},
		{list(unit, ref(4, 0), mutRef(3, 1)), 3, []int{3, 4}, false},
		{list(unit, ref(4, 0), ref(4, 1)), 3, []int{4}, true},
		{list(unit, tuple(0)), 2, nil, true},
		{list(unit, tuple(0), tuple(1, 1), tuple(2, 0)), 4, nil, true},
		{list(unit, mutRef(1, 0), tuple(0, 1)), 3, []int{1}, false},
		{list(unit, mutRef(1, 0), tuple(1, 0)), 3, []int{1}, false},
		{list(unit, mutRef(1, 0), tuple(1), tuple(2)), 4, []int{1}, false},
		{list(unit, mutRef(1, 0), tuple(1), ref(2, 2)), 4, []int{1, 2}, true},
		{list(unit, mutRef(1, 0), tuple(1), ref(2, 2), tuple(3, 0)), 5, []int{1, 2}, true},
		{list(unit, mutRef(1, 0), tuple(1), tuple(0)), 2, nil, true},
		{list(unit, ref(4, 0), ref(2, 0), ref(3, 0), ref(0, 0), tuple(1, 2, 3, 4, 1)), 3, []int{0, 2, 3, 4}, true},
		{list(unit, ref(3, 0), ref(2, 1), ref(1, 2), tuple(3, 1)), 5, []int{1, 2, 3}, true},
	} {
		checkValid(t, c.l, 5)
		checkProperties(t, c.l, len(c.l)-1, c.depth, c.regions, c.copyable)
	}
	checkValid(t, nil, 5)
	checkValid(t, list(), 0)
}

// P6.1: any number of regions; a reference needs at least one.
func TestNumberOfRegions(t *testing.T) {
	for _, n := range append([]int{0, 1, 2, 65535, 65536}, extremes...) {
		checkValid(t, nil, n)
		checkValid(t, list(integer, tuple(0, 0)), n)
		checkModel(t, list(integer, ref(0, 0)), n)
		checkModel(t, list(integer, ref(n, 0)), n)
		checkModel(t, list(integer, ref(n-1, 0)), n)
		checkModel(t, list(integer, mutRef(n/2, 0)), n)
	}
	checkError(t, list(integer, ref(0, 0)), 0, api.ErrRange)
	checkError(t, list(integer, ref(-1, 0)), -1, api.ErrRange)
	checkError(t, list(integer, ref(3, 0)), 3, api.ErrRange)
	checkValid(t, list(integer, ref(2, 0)), 3)
}

// P6.1: kinds that are not among the five, whatever the other fields are.
func TestKinds(t *testing.T) {
	for _, kind := range append([]int{5, 6, 255, 256, 259, 260}, extremes...) {
		for _, x := range []api.Type{unit, ref(0, 0), ref(-1, 7), tuple(0), tuple(9), {Mut: true, Fields: []int{0}}, integer} {
			x.Kind = kind
			checkError(t, list(x), 1, api.ErrKind)
			checkError(t, list(integer, x), 1, api.ErrKind)
			checkError(t, list(integer, ref(0, 0), x, x), 1, api.ErrKind)
		}
	}
}

// P6.1: unused fields that are not zero; this precedes the other errors of the element but its kind.
func TestUnusedFields(t *testing.T) {
	numbers := append([]int{1, 2}, extremes...)
	for _, x := range []api.Type{unit, boolean, integer, tuple(0), tuple(), tuple(-1), tuple(7), tuple(0, 0)} {
		spoiled := x
		spoiled.Mut = true
		checkError(t, list(integer, spoiled), 9, api.ErrArg)
		for _, n := range numbers {
			spoiled = x
			spoiled.Region = n
			checkError(t, list(integer, spoiled), 9, api.ErrArg)
			spoiled = x
			spoiled.Elem = n
			checkError(t, list(integer, spoiled), 9, api.ErrArg)
		}
	}
	for _, x := range []api.Type{unit, boolean, integer, ref(0, 0), mutRef(8, 0), ref(9, 0), ref(-1, 0), ref(0, 1), ref(0, -1)} {
		for _, fields := range [][]int{{0}, {0, 0}, {1}, {-1}, make([]int, 65536)} {
			x.Fields = fields
			checkError(t, list(integer, x), 9, api.ErrArg)
		}
	}
}

// P6.1: an empty slice is an empty slice, be it nil or not.
func TestEmptyFields(t *testing.T) {
	l := list(unit, boolean, integer, ref(0, 0), mutRef(0, 0))
	for i := range l {
		l[i].Fields = []int{}
	}
	checkValid(t, l, 1)
	for i := range l {
		l[i].Fields = []int{1, 2}[:0]
	}
	checkValid(t, l, 1)
	for _, x := range l {
		again := x
		again.Fields = nil
		checkError(t, append(list(l...), again), 1, api.ErrDuplicate)
	}
}

// P6.1: regions and indices that are out of range, or not those of earlier elements.
func TestRange(t *testing.T) {
	before := list(integer, unit, ref(0, 0))
	check := func(x api.Type) {
		t.Helper()
		l := append(list(before...), x, boolean, tuple(0))
		checkError(t, l, 3, api.ErrRange)
	}
	for _, n := range append([]int{3, 4, 5, 6, 7}, extremes...) {
		check(ref(n, 0))
		check(mutRef(n, 0))
		check(ref(0, n))
		check(mutRef(2, n))
		check(ref(n, n))
		for at := range 5 {
			fields := []int{0, 1, 2, 0, 0}
			fields[at] = n
			check(tuple(fields...))
			check(tuple(fields[:at+1]...))
		}
	}
	checkError(t, list(ref(0, 0)), 1, api.ErrRange)
	checkError(t, list(tuple(0)), 1, api.ErrRange)
	checkError(t, list(ref(0, 1), integer), 1, api.ErrRange)
	checkError(t, list(tuple(1), integer), 1, api.ErrRange)
}

// P6.1: tuples without components and with as many as there may be, or more.
func TestNumberOfComponents(t *testing.T) {
	checkError(t, list(integer, tuple()), 1, api.ErrLimit)
	checkError(t, list(tuple()), 1, api.ErrLimit)
	checkError(t, list(integer, api.Type{Kind: api.Tuple, Fields: []int{}}, integer), 1, api.ErrLimit)
	l := list(integer, unit, ref(0, 1))
	for _, n := range []int{1, 2, 255, 256, 65534, 65535} {
		checkValid(t, append(list(l...), tuple(count(n, 3)...)), 1)
	}
	for _, n := range []int{65536, 65537, 131071, 131072} {
		checkError(t, append(list(l...), tuple(count(n, 3)...)), 1, api.ErrLimit)
		checkError(t, append(list(l...), tuple(count(n, 4)...)), 1, api.ErrRange)
		late := count(n, 3)
		late[n-1] = 3
		checkError(t, append(list(l...), tuple(late...)), 1, api.ErrRange)
	}
}

// P6.1: lists with as many elements as there may be, or more; the latter precedes the errors of the elements.
func TestNumberOfTypes(t *testing.T) {
	l := many(65536)
	if e := types.Check(l[:65535], 290); e != api.OK {
		t.Errorf("%v", e)
	}
	for _, bad := range []api.Type{unit, {Kind: 5}, {Mut: true}, ref(0, -1), tuple(), tuple(-1)} {
		l[0] = bad
		if e := types.Check(l, 290); e != api.ErrLimit {
			t.Errorf("%v: %v", bad, e)
		}
	}
	if e := types.Check(make([]api.Type, 1<<20), 290); e != api.ErrLimit {
		t.Errorf("%v", e)
	}
}

// P6.1: the last element of a long list has an error, or is equal to any other one.
func TestLongLists(t *testing.T) {
	l := many(65534)
	for _, c := range []struct {
		x api.Type
		e api.Errno
	}{
		{tuple(65533, 65533), api.OK}, {tuple(65532), api.OK}, {tuple(0, 255), api.OK}, {tuple(65280), api.OK}, {tuple(65533), api.OK},
		{tuple(65534), api.ErrRange}, {ref(0, 65533), api.OK}, {ref(0, 65534), api.ErrRange}, {mutRef(0, 0), api.OK},
		{tuple(0, 0, 0), api.OK}, {unit, api.ErrDuplicate}, {l[100], api.ErrDuplicate}, {l[1000], api.ErrDuplicate}, {l[65533], api.ErrDuplicate},
	} {
		if e := types.Check(append(l, c.x), 290); e != c.e {
			t.Errorf("%v: %v, want %v", c.x, e, c.e)
		}
	}
	// All bits of a component count.
	l = many(65000)
	for bit := range 16 {
		l = append(l, tuple(1<<bit), tuple(0, 0, 1<<bit), tuple(1<<bit|1, 2))
	}
	if e := types.Check(append(l, tuple(0)), 290); e != api.OK {
		t.Errorf("%v", e)
	}
	for _, x := range l[65000:] {
		if e := types.Check(append(l, x), 290); e != api.ErrDuplicate {
			t.Errorf("%v: %v", x, e)
		}
	}
}

// P6.1 and P6.3: depths up to the greatest one, and above it.
func TestDepths(t *testing.T) {
	for _, build := range builders() {
		for n := 1; n <= 32; n++ {
			l := chain(n, build)
			checkValid(t, l, 3)
			if d := types.Depth(l, n-1); d != n {
				t.Errorf("the depth is %d, not %d", d, n)
			}
		}
		for n := 33; n <= 40; n++ {
			checkError(t, chain(n, build), 3, api.ErrDepth)
		}
		// The depth is the greatest one, whichever component has it.
		l := chain(32, build)
		checkError(t, append(l, tuple(31, 0)), 3, api.ErrDepth)
		checkError(t, append(l, tuple(0, 31)), 3, api.ErrDepth)
		checkError(t, append(l, ref(0, 31)), 3, api.ErrDepth)
		checkError(t, append(l, tuple(0, 31, 7)), 3, api.ErrDepth)
		checkValid(t, append(l, tuple(0, 30, 7), ref(1, 30), boolean), 3)
	}
}

// P6.1: the other errors of an element precede that of its depth.
func TestDepthIsLate(t *testing.T) {
	l := chain(32, builders()[0])
	checkError(t, append(list(l...), api.Type{Kind: 5, Elem: 31}), 3, api.ErrKind)
	checkError(t, append(list(l...), api.Type{Kind: api.Ref, Elem: 31, Fields: []int{31}}), 3, api.ErrArg)
	checkError(t, append(list(l...), ref(3, 31)), 3, api.ErrRange)
	checkError(t, append(list(l...), tuple(31, 32)), 3, api.ErrRange)
	checkError(t, append(list(l...), tuple(count(65536, 32)...)), 3, api.ErrLimit)
	checkError(t, append(list(l...), tuple(count(65535, 32)...)), 3, api.ErrDepth)
}

// P6.1: equal elements, next to each other and apart, and elements that are nearly equal.
func TestDuplicates(t *testing.T) {
	l := list(integer, boolean, unit, ref(0, 0), mutRef(0, 0), ref(1, 0), mutRef(1, 0), ref(0, 1), mutRef(0, 1), ref(1, 1),
		tuple(0), tuple(1), tuple(0, 0), tuple(0, 1), tuple(1, 0), tuple(1, 1), tuple(0, 0, 0), tuple(0, 1, 0), tuple(3, 4), tuple(10), ref(0, 10), ref(0, 18))
	checkValid(t, l, 2)
	for i, x := range l {
		checkError(t, append(list(l...), x), 2, api.ErrDuplicate)
		checkError(t, append(list(l[:i+1]...), x, integer), 2, api.ErrDuplicate)
		x.Fields = slices.Clone(x.Fields)
		checkError(t, append(list(l...), x), 2, api.ErrDuplicate)
	}
	far := list(integer, ref(0, 0), ref(1<<8, 0), ref(1<<16, 0), ref(1<<32, 0), ref(1<<40, 0), ref(1<<62, 0), ref(math.MaxInt-1, 0), mutRef(1<<32, 0))
	checkValid(t, far, math.MaxInt)
	for _, x := range far {
		checkError(t, append(list(far...), x), math.MaxInt, api.ErrDuplicate)
	}
}

// P6.1: tuples whose components are the same bytes in another arrangement.
func TestNearDuplicates(t *testing.T) {
	l := many(520)
	n := len(l)
	l = append(l, tuple(1), tuple(256), tuple(257), tuple(1, 0), tuple(0, 1), tuple(256, 0), tuple(0, 256), tuple(0), tuple(0, 0), tuple(513, 2), tuple(2, 513), tuple(512, 2), tuple(2, 512))
	checkValid(t, l, 290)
	for i, x := range l[n:] {
		checkError(t, append(list(l...), x), 290, api.ErrDuplicate)
		x.Fields = append(slices.Clone(x.Fields), 0, 0, 0)
		checkModel(t, append(list(l[:n+i]...), x), 290)
	}
}

// P6.1: the first element with an error decides, whatever follows it.
func TestFirstError(t *testing.T) {
	bad := []struct {
		x api.Type
		e api.Errno
	}{
		{api.Type{Kind: 5}, api.ErrKind}, {api.Type{Kind: -1, Mut: true}, api.ErrKind},
		{api.Type{Mut: true}, api.ErrArg}, {api.Type{Kind: api.Tuple, Elem: 1}, api.ErrArg}, {api.Type{Kind: api.Ref, Region: 99, Fields: []int{0}}, api.ErrArg},
		{ref(3, 0), api.ErrRange}, {ref(0, 99), api.ErrRange}, {tuple(0, -1), api.ErrRange}, {tuple(), api.ErrLimit},
		{tuple(31), api.ErrDepth}, {integer, api.ErrDuplicate},
	}
	good := chain(32, builders()[1])
	for _, first := range bad {
		checkError(t, append(list(good...), first.x), 3, first.e)
		checkError(t, append(list(good...), first.x, boolean, tuple(0, 0)), 3, first.e)
		for _, second := range bad {
			checkError(t, append(list(good...), first.x, second.x), 3, first.e)
			checkError(t, append(list(good...), boolean, first.x, tuple(0, 0), second.x), 3, first.e)
		}
	}
}

// variants returns types of which no two are equal, with any values in any fields.
func variants() []api.Type {
	var l []api.Type
	for _, kind := range append([]int{0, 1, 2, 3, 4, 5}, extremes...) {
		l = append(l, api.Type{Kind: kind})
	}
	for _, n := range append([]int{1, 2}, extremes...) {
		l = append(l, api.Type{Region: n}, api.Type{Elem: n}, api.Type{Fields: []int{n}}, api.Type{Fields: []int{n, n}}, api.Type{Fields: []int{n, 0}}, api.Type{Fields: []int{0, n}})
		l = append(l, ref(n, 0), ref(0, n), ref(n, n), mutRef(n, n), mutRef(n, 0), mutRef(0, n), tuple(n), tuple(n, n), tuple(0, n), tuple(n, 0), tuple(0, 0, n))
	}
	return append(l, api.Type{Mut: true}, api.Type{Fields: []int{0}}, tuple(0), tuple(0, 0), tuple(0, 0, 0), mutRef(0, 0), mutRef(1, 2), ref(1, 2), tuple(1, 2), tuple(2, 1))
}

// P6.2: each pair of types; an empty slice is equal to nil.
func TestEqual(t *testing.T) {
	l := variants()
	for i, a := range l {
		for j, b := range l {
			if got := types.Equal(a, b); got != (i == j) {
				t.Errorf("Equal(%v, %v) = %v", a, b, got)
			}
		}
		again := a
		again.Fields = append([]int{}, a.Fields...)
		if !types.Equal(a, again) || !types.Equal(again, a) {
			t.Errorf("%v and its copy are not equal", a)
		}
	}
	great := count(65536, 65536)
	other := slices.Clone(great)
	if !types.Equal(tuple(great...), tuple(other...)) || types.Equal(tuple(great...), tuple(other[:65535]...)) {
		t.Error("great tuples")
	}
	other[65535]--
	if types.Equal(tuple(great...), tuple(other...)) {
		t.Error("great tuples with another component")
	}
}

// P6.2: the first of equal elements is found, in lists that need not be valid.
func TestFind(t *testing.T) {
	l := variants()
	n := len(l)
	l = append(l, l...)
	for i, x := range l {
		checkFind(t, l, x, i%n, true)
		checkFind(t, l[i:], x, 0, true)
		if i < n {
			checkFind(t, l[i+1:], x, n-1, true)
			checkFind(t, l[:i], x, 0, false)
			checkFind(t, l[i+1:i+n], x, 0, false)
			x.Fields = append([]int{}, x.Fields...)
			checkFind(t, l, x, i, true)
		}
	}
	for _, x := range l {
		checkFind(t, nil, x, 0, false)
	}
	checkFind(t, l, tuple(0, 0, 0, 0), 0, false)
	checkFind(t, l, api.Type{Kind: api.Bool, Mut: true}, 0, false)
}

// P6.3: types with parts in common, to which very many ways lead.
func TestSharedParts(t *testing.T) {
	l := doubled(32)
	checkValid(t, l, 0)
	l = append(chain(30, func(i int) api.Type { return tuple(i, i, i, i) }), mutRef(7, 29), tuple(30, 30))
	checkValid(t, l, 8)
	wide := list(integer, mutRef(5, 0))
	for i := range 30 {
		wide = append(wide, tuple(count(1000, i+2)...))
	}
	checkValid(t, wide, 6)
}

// P6.3: regions come in ascending order and once each, however many there are.
func TestManyRegions(t *testing.T) {
	r := rand.New(rand.NewSource(1))
	l := list(integer)
	var fields []int
	for i, region := range r.Perm(3000) {
		l = append(l, ref(region, 0))
		fields = append(fields, i+1)
	}
	l = append(l, tuple(fields...), tuple(append(fields, fields...)...))
	want := count(3000, 3000)
	for _, i := range []int{3001, 3002} {
		if got := types.Regions(l, i); !slices.Equal(got, want) {
			t.Errorf("%d regions", len(got))
		}
	}
	deep := chain(32, func(i int) api.Type { return ref(31-i, i) })
	if got := types.Regions(deep, 31); !slices.Equal(got, count(32, 32)[1:]) {
		t.Errorf("%v", got)
	}
}

// P6.3: the elements behind a type make no difference.
func TestOnlyEarlierElements(t *testing.T) {
	l := list(integer, ref(0, 0), tuple(1, 0))
	for _, behind := range []api.Type{mutRef(1, 2), tuple(2), {Kind: 9}, {Kind: api.Tuple, Fields: []int{9}}} {
		checkProperties(t, append(list(l...), behind), 2, 3, []int{0}, true)
		checkProperties(t, append(list(l...), behind), 0, 1, nil, true)
	}
}

// P1 of the document: lists that are not valid have no specified properties, but the calls return.
func TestNotValid(t *testing.T) {
	lists := [][]api.Type{
		{ref(0, 0)}, {tuple(0, 0)}, {ref(0, 1), ref(0, 0)}, {tuple(1, 0), tuple(0, 1)}, {integer, ref(0, 2), tuple(1, 0, 2)},
		variants(), append(variants(), variants()...), doubled(3000), {ref(-1, -1)}, {tuple(1 << 40)}, {{Kind: 7, Fields: []int{0}}}, {tuple(count(70000, 1)...)},
	}
	for _, l := range lists {
		for _, i := range append([]int{len(l)}, extremes...) {
			checkProperties(t, l, i, 0, nil, false)
		}
		for i := range l {
			first, second := types.Depth(l, i), types.Depth(l, i)
			if first != second || types.Copyable(l, i) != types.Copyable(l, i) || !slices.Equal(types.Regions(l, i), types.Regions(l, i)) {
				t.Errorf("%v: two results for %d", show(l), i)
			}
			for _, regions := range extremes {
				types.Check(l, regions)
			}
		}
	}
}

// P1 of the document: a list that is not valid because of its depth does not take all of the stack.
func TestLittleStack(t *testing.T) {
	defer debug.SetMaxStack(debug.SetMaxStack(16 << 20))
	for _, build := range builders() {
		l := chain(1<<18, build)
		types.Depth(l, len(l)-1)
		types.Regions(l, len(l)-1)
		types.Copyable(l, len(l)-1)
		if e := types.Check(l[:65535], 3); e != api.ErrDepth {
			t.Errorf("%v", e)
		}
	}
}

// Rule 4 of the document: arguments are not modified, and nothing behind their length is read.
func TestKeepsArguments(t *testing.T) {
	fields := []int{1, 0, 9, -1}
	memory := list(integer, ref(0, 0), tuple(fields[:2]...), tuple(), unit, api.Type{Kind: 9})
	before := slices.Clone(memory)
	l := memory[:3]
	checkValid(t, l, 1)
	checkFind(t, l, unit, 0, false)
	checkFind(t, l, tuple(fields[:3]...), 0, false)
	checkError(t, memory[:4], 1, api.ErrLimit)
	if !reflect.DeepEqual(memory, before) || !slices.Equal(fields, []int{1, 0, 9, -1}) {
		t.Errorf("%v and %v were modified", memory, fields)
	}
}

// Rules 4 and 6 of the document: a result shares memory neither with the list nor with another result.
func TestRegionsAreSeparate(t *testing.T) {
	l := list(integer, ref(1, 0), ref(0, 0), tuple(1, 2))
	first, second := types.Regions(l, 3), types.Regions(l, 3)
	for i := range first {
		first[i] = 7
	}
	_ = append(first, 7)
	if !slices.Equal(second, []int{0, 1}) {
		t.Errorf("%v: shared with another result", second)
	}
	checkValid(t, l, 2)
	l[1].Region = 2
	checkProperties(t, l, 3, 3, []int{0, 2}, true)
	l[2].Mut = true
	checkProperties(t, l, 3, 3, []int{0, 2}, false)
}

// Rule 6 of the document: the functions may be called concurrently, with the same list as well.
func TestConcurrentCalls(t *testing.T) {
	shared := append(doubled(20), ref(1, 19), mutRef(0, 19), tuple(20, 21))
	var group sync.WaitGroup
	for i := range 8 {
		group.Go(func() {
			for range 20 {
				checkValid(t, shared, 2)
				checkValid(t, append(doubled(i+1), ref(i, i)), 8)
			}
		})
	}
	group.Wait()
}

// arbitrary returns a type that may be added to a list with n elements; it is seldom in order if bad is true.
func arbitrary(r *rand.Rand, n, regions int, bad bool) api.Type {
	index := func(limit int) int {
		if limit < 1 || bad && r.Intn(8) == 0 {
			return r.Intn(limit+3) - 1
		}
		return r.Intn(limit)
	}
	x := api.Type{Kind: r.Intn(5)}
	if bad && r.Intn(16) == 0 {
		x.Kind = r.Intn(12) - 3
	}
	if x.Kind == api.Ref || bad && r.Intn(16) == 0 {
		x.Mut, x.Region, x.Elem = r.Intn(2) == 0, index(regions), index(n)
	}
	if x.Kind == api.Tuple || bad && r.Intn(16) == 0 {
		for range r.Intn(4) {
			x.Fields = append(x.Fields, index(n))
		}
	}
	return x
}

// P6.1 to P6.4: arbitrary lists that are valid, and such that need not be, compared with the model.
func TestAgainstModel(t *testing.T) {
	r := rand.New(rand.NewSource(2))
	for range 3000 {
		regions := r.Intn(5)
		var l []api.Type
		for range r.Intn(25) {
			x := arbitrary(r, len(l), regions, false)
			if _, e := modelOf(append(list(l...), x), regions); e == api.OK {
				l = append(l, x)
			}
		}
		checkValid(t, l, regions)
		for range 4 {
			checkModel(t, append(list(l...), arbitrary(r, len(l), regions, true)), regions)
		}
		if len(l) > 0 {
			spoiled := list(l...)
			at := r.Intn(len(l))
			spoiled[at] = arbitrary(r, at, regions, true)
			checkModel(t, spoiled, regions)
			checkModel(t, l, r.Intn(6)-1)
			checkModel(t, slices.Delete(list(l...), at, at+1), regions)
			checkModel(t, slices.Insert(list(l...), at, l[r.Intn(len(l))]), regions)
		}
	}
}

// listOf reads a list of types from bytes; each list of few elements with small numbers is that of some bytes.
func listOf(b []byte) []api.Type {
	next := func() int {
		if len(b) == 0 {
			return 0
		}
		n := int(int8(b[0]))
		b = b[1:]
		return n
	}
	var l []api.Type
	for len(b) > 0 {
		x := api.Type{Kind: next()}
		uses := next()
		if uses&1 != 0 {
			x.Mut = true
		}
		if uses&2 != 0 {
			x.Region, x.Elem = next(), next()
		}
		for range uses >> 2 & 15 {
			x.Fields = append(x.Fields, next())
		}
		l = append(l, x)
	}
	return l
}

// FuzzCheck compares lists with the model.
func FuzzCheck(f *testing.F) {
	f.Add([]byte{}, 0)
	f.Add([]byte{2, 0, 3, 2, 0, 0, 4, 8, 1, 0}, 1)
	f.Add([]byte{2, 0, 2, 0}, 1)
	f.Add([]byte{2, 0, 3, 3, 1, 0, 4, 4, 1, 3, 2, 0, 2}, 2)
	f.Add([]byte{2, 0, 3, 6, 1, 0, 4, 4, 1, 3, 2, 0, 2}, 2)
	f.Fuzz(func(t *testing.T, b []byte, regions int) {
		l := listOf(b)
		checkModel(t, l, regions)
		for i, x := range l {
			types.Depth(l, i)
			types.Regions(l, i)
			types.Copyable(l, i)
			first := slices.IndexFunc(l, func(y api.Type) bool { return same(x, y) })
			checkFind(t, l, x, first, true)
		}
	})
}
