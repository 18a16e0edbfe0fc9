package bodies_test

import (
	"cmp"
	"fmt"
	"maps"
	"math"
	"math/rand"
	"reflect"
	"slices"
	"strings"
	"sync"
	"testing"

	"mirtower/api"
	"mirtower/bodies"
	"mirtower/build"
)

// numbers are what the numbers of an arbitrary body are taken from: all kinds, no kinds, and no indices.
var numbers = []int{0, 1, 2, 3, 4, 5, 6, -1, math.MinInt, math.MaxInt, 1 << 32}

// words are what the strings of an arbitrary body are taken from, not all of which are identifiers.
var words = []string{"", "a", "b", "aa", "B", "ab", "é", "\xff", "a\x00", "0 \n"}

// place returns a place.
func place(local int, projs ...api.Proj) api.Place { return api.Place{Local: local, Proj: projs} }

// constant returns an operand that is a number.
func constant(n int64) api.Operand { return api.Operand{Kind: api.ConstInt, N: n} }

// block returns a block.
func block(term api.Term, stmts ...api.Stmt) api.Block { return api.Block{Stmts: stmts, Term: term} }

// call returns a block without statements whose terminator is a Call.
func call(name string) api.Block { return block(api.Term{Kind: api.Call, Name: name}) }

// assign returns an assignment of some operands.
func assign(args ...api.Operand) api.Stmt {
	return api.Stmt{Kind: api.Assign, Rvalue: api.Rvalue{Kind: api.MakeTuple, Args: args}}
}

// with returns a body with some blocks.
func with(blocks ...api.Block) api.Body { return api.Body{Blocks: blocks} }

// value returns a value that can be changed.
func value[T any](x *T) reflect.Value { return reflect.ValueOf(x).Elem() }

// parts visits a value and all values in it, and if whole is true, also those in the rest of the capacity of each slice.
func parts(v reflect.Value, whole bool, visit func(reflect.Value)) {
	visit(v)
	switch v.Kind() {
	case reflect.Struct:
		for i := range v.NumField() {
			parts(v.Field(i), whole, visit)
		}
	case reflect.Slice:
		if whole {
			v = v.Slice(0, v.Cap())
		}
		fallthrough
	case reflect.Array:
		for i := range v.Len() {
			parts(v.Index(i), whole, visit)
		}
	}
}

// text returns a text that is the same for two values exactly if they are equal, an empty slice being nil or not.
func text(v reflect.Value, whole bool) string {
	var out strings.Builder
	parts(v, whole, func(x reflect.Value) {
		switch x.Kind() {
		case reflect.Int, reflect.Int64, reflect.Bool:
			fmt.Fprint(&out, x.Interface(), " ")
		case reflect.String:
			fmt.Fprintf(&out, "%q ", x.String())
		case reflect.Slice:
			fmt.Fprint(&out, "of ", x.Len(), ": ")
		case reflect.Struct, reflect.Array:
		default:
			panic("a part of an unknown kind")
		}
	})
	return out.String()
}

// show returns the part of the text of a value that is worth reading.
func show(v reflect.Value) string {
	s := text(v, false)
	return s[:min(len(s), 900)]
}

// fill sets all that is in a value to what pick chooses, which is called with the number of choices. The choice 0 is always the least.
func fill(v reflect.Value, pick func(int) int) {
	switch v.Kind() {
	case reflect.Int, reflect.Int64:
		v.SetInt(int64(numbers[pick(len(numbers))]))
	case reflect.Bool:
		v.SetBool(pick(2) > 0)
	case reflect.String:
		v.SetString(words[pick(len(words))])
	case reflect.Struct:
		for i := range v.NumField() {
			fill(v.Field(i), pick)
		}
	case reflect.Array:
		for i := range v.Len() {
			fill(v.Index(i), pick)
		}
	case reflect.Slice:
		sizes := [][2]int{{-1, -1}, {0, 0}, {1, 1}, {2, 2}, {3, 3}, {0, 1}, {1, 2}, {2, 3}}
		size := sizes[pick(len(sizes))]
		if size[0] < 0 {
			v.SetZero()
			return
		}
		v.Set(reflect.MakeSlice(v.Type(), size[1], size[1]))
		for i := range v.Len() {
			fill(v.Index(i), pick)
		}
		v.SetLen(size[0])
	}
}

// arbitrary returns a body whose parts pick chooses.
func arbitrary(pick func(int) int) api.Body {
	var b api.Body
	fill(value(&b), pick)
	return b
}

// fullBody returns a body, in new memory, all of whose lists have two elements and no two of whose numbers, and no two of whose strings, are equal.
func fullBody() api.Body {
	var b api.Body
	count := 0
	var set func(v reflect.Value)
	set = func(v reflect.Value) {
		count++
		switch v.Kind() {
		case reflect.Int, reflect.Int64:
			v.SetInt(int64(count))
		case reflect.Bool:
			v.SetBool(true)
		case reflect.String:
			v.SetString(fmt.Sprint("s", count))
		case reflect.Struct:
			for i := range v.NumField() {
				set(v.Field(i))
			}
		case reflect.Array:
			for i := range v.Len() {
				set(v.Index(i))
			}
		case reflect.Slice:
			v.Set(reflect.MakeSlice(v.Type(), 2, 2))
			set(v.Index(0))
			set(v.Index(1))
		}
	}
	set(value(&b))
	b.Blocks[1].Term.Kind = api.Call
	return b
}

// copyOf is the model of Clone. No slice of its result has more capacity than it needs.
func copyOf(b api.Body) api.Body {
	// The slices of a copy of a struct are those of the struct until they are replaced, and so are those of an element of a slice.
	parts(value(&b), false, func(x reflect.Value) {
		if x.Kind() == reflect.Slice {
			l := reflect.MakeSlice(x.Type(), x.Len(), x.Len())
			reflect.Copy(l, x)
			x.Set(l)
		}
	})
	return b
}

// modelNodes counts nodes: each struct is one, and so is each element of a list that is none.
func modelNodes(b api.Body) int {
	n := 0
	parts(value(&b), false, func(x reflect.Value) {
		if x.Kind() == reflect.Struct {
			n++
		} else if x.Kind() == reflect.Slice && x.Type().Elem().Kind() != reflect.Struct {
			n += x.Len()
		}
	})
	return n
}

// modelNames returns how often each identifier of a body occurs.
func modelNames(b api.Body) map[string]int {
	names := map[string]int{b.Name: 1}
	for _, r := range b.Regions {
		names[r]++
	}
	for _, l := range b.Locals {
		names[l.Name]++
	}
	for _, x := range b.Blocks {
		if x.Term.Kind == 3 {
			names[x.Term.Name]++
		}
	}
	return names
}

// span is the memory of a slice, with its whole capacity.
type span struct{ from, to uintptr }

// spans returns the memory of all slices in a value.
func spans(v reflect.Value) []span {
	var l []span
	parts(v, false, func(x reflect.Value) {
		if x.Kind() == reflect.Slice && x.Cap() > 0 {
			l = append(l, span{x.Pointer(), x.Pointer() + uintptr(x.Cap())*x.Type().Elem().Size()})
		}
	})
	return l
}

// checkNew checks that no two slices of a result share memory, and none shares memory with a slice of another value.
func checkNew(t *testing.T, result, other reflect.Value) {
	t.Helper()
	l := spans(result)
	own := len(l)
	l = append(l, spans(other)...)
	order := make([]int, len(l))
	for i := range order {
		order[i] = i
	}
	slices.SortFunc(order, func(i, j int) int { return cmp.Compare(l[i].from, l[j].from) })
	// Two slices of the other value may share memory, so that the slices of the result are also kept account of on their own.
	var end, ownEnd uintptr
	for _, i := range order {
		if l[i].from < ownEnd || i < own && l[i].from < end {
			t.Errorf("memory is shared in %s", show(result))
			return
		}
		end = max(end, l[i].to)
		if i < own {
			ownEnd = max(ownEnd, l[i].to)
		}
	}
}

// checkEqual checks a call of Equal in both orders, in the model as well.
func checkEqual(t *testing.T, a, b api.Body, want bool) {
	t.Helper()
	if (text(value(&a), false) == text(value(&b), false)) != want {
		t.Errorf("the model does not agree that %v is the result for %s and %s", want, show(value(&a)), show(value(&b)))
	}
	if bodies.Equal(a, b) != want || bodies.Equal(b, a) != want {
		t.Errorf("Equal is not %v for %s and %s", want, show(value(&a)), show(value(&b)))
	}
}

// checkClone checks that Clone returns an equal body in new memory.
func checkClone(t *testing.T, b api.Body) api.Body {
	t.Helper()
	c := bodies.Clone(b)
	checkEqual(t, b, c, true)
	checkNew(t, value(&c), value(&b))
	return c
}

// checkNames checks the identifiers of a body, in the model as well.
func checkNames(t *testing.T, b api.Body, size int, want ...string) {
	t.Helper()
	if got := bodies.Names(b); !slices.Equal(got, want) {
		t.Errorf("Names(%s) = %q, want %q", show(value(&b)), got, want)
	}
	if got := bodies.Bytes(b); got != size {
		t.Errorf("Bytes(%s) = %d, want %d", show(value(&b)), got, size)
	}
	model, sum := modelNames(b), 0
	for name, n := range model {
		sum += n * len(name)
	}
	if !slices.Equal(slices.Sorted(maps.Keys(model)), want) || sum != size {
		t.Errorf("%s: the model has %d and %v", show(value(&b)), sum, model)
	}
}

// checkNodes checks the number of nodes of a body, in the model as well.
func checkNodes(t *testing.T, b api.Body, want int) {
	t.Helper()
	if got := bodies.Nodes(b); got != want {
		t.Errorf("Nodes(%s) = %d, want %d", show(value(&b)), got, want)
	}
	if got := modelNodes(b); got != want {
		t.Errorf("%s: the model has %d nodes, the test %d", show(value(&b)), got, want)
	}
}

// checkOperands checks that the operands of a block are the wanted ones, in new memory.
func checkOperands(t *testing.T, b api.Block, want ...api.Operand) []api.Operand {
	t.Helper()
	got := bodies.Operands(b)
	if text(value(&got), false) != text(value(&want), false) {
		t.Errorf("Operands(%v) = %v, want %v", b, got, want)
	}
	checkNew(t, value(&got), value(&b))
	return got
}

// checkModel compares all that is said of a body with the model, and checks that the body is not modified.
func checkModel(t *testing.T, b api.Body) {
	t.Helper()
	before := text(value(&b), true)
	names, sum := modelNames(b), 0
	for name, n := range names {
		sum += n * len(name)
	}
	checkNames(t, b, sum, slices.Sorted(maps.Keys(names))...)
	checkNodes(t, b, modelNodes(b))
	for _, x := range b.Blocks {
		var want []api.Operand
		for i := range len(x.Stmts) {
			want = append(want, x.Stmts[i].Rvalue.Args...)
		}
		checkOperands(t, x, append(want, x.Term.Args...)...)
	}
	checkClone(t, b)
	checkEqual(t, b, b, true)
	if text(value(&b), true) != before {
		t.Errorf("%s was modified", show(value(&b)))
	}
}

// checkSame checks that all that is said of two equal bodies is equal.
func checkSame(t *testing.T, a, b api.Body) {
	t.Helper()
	checkEqual(t, a, b, true)
	if !slices.Equal(bodies.Names(a), bodies.Names(b)) || bodies.Nodes(a) != bodies.Nodes(b) || bodies.Bytes(a) != bodies.Bytes(b) {
		t.Errorf("the measures of %s differ", show(value(&a)))
	}
	for i := range a.Blocks {
		checkOperands(t, a.Blocks[i], bodies.Operands(b.Blocks[i])...)
	}
	x, y := bodies.Clone(a), bodies.Clone(b)
	checkEqual(t, x, y, true)
	checkNew(t, value(&x), value(&y))
}

// P9.1 to P9.3: the example of the chapter.
func TestExample(t *testing.T) {
	b := api.Body{Name: "f", Blocks: []api.Block{block(api.Term{Kind: api.Return})}}
	checkNodes(t, b, 4)
	checkNames(t, b, 1, "f")
	checkOperands(t, b.Blocks[0])
	checkModel(t, b)
}

// P9.1 to P9.3: a body without anything, with its lists nil or empty.
func TestNothing(t *testing.T) {
	empty := api.Body{Regions: []string{}, Outlives: [][2]int{}, Types: []api.Type{}, Locals: []api.Local{}, Blocks: []api.Block{}}
	for _, b := range []api.Body{{}, empty} {
		checkNodes(t, b, 1)
		checkNames(t, b, 0, "")
		checkModel(t, b)
		checkEqual(t, b, api.Body{}, true)
		checkEqual(t, b, empty, true)
	}
	checkOperands(t, api.Block{})
	checkOperands(t, api.Block{Stmts: []api.Stmt{}})
}

// P9.1: each field that is changed makes a difference, and so does each list that is longer, shorter or in another order.
func TestEachField(t *testing.T) {
	a, b := fullBody(), fullBody()
	checkEqual(t, a, b, true)
	fields := 0
	parts(value(&b), false, func(x reflect.Value) {
		old := reflect.New(x.Type()).Elem()
		old.Set(x)
		var others []any
		switch x.Kind() {
		case reflect.Int:
			n := int(x.Int())
			others = []any{n + 1, n - 1, -n, n + 1<<32, 0, math.MinInt, math.MaxInt}
		case reflect.Int64:
			n := x.Int()
			others = []any{n + 1, n - 1, -n, n + 1<<32, int64(0), int64(math.MinInt64), int64(math.MaxInt64)}
		case reflect.Bool:
			others = []any{!x.Bool()}
		case reflect.String:
			s := x.String()
			others = []any{"", s + "0", s[1:], s[:1] + "x" + s[2:], strings.ToUpper(s)}
		case reflect.Slice:
			more := reflect.Append(x, reflect.Zero(x.Type().Elem()))
			swapped := reflect.Append(x.Slice(1, 2), x.Index(0))
			others = []any{x.Slice(0, 0).Interface(), x.Slice(0, 1).Interface(), more.Interface(), swapped.Interface()}
		default:
			return
		}
		fields++
		for _, other := range others {
			x.Set(reflect.ValueOf(other))
			if old.Kind() == reflect.Slice || !old.Equal(x) {
				checkEqual(t, a, b, false)
				checkModel(t, b)
			}
			x.Set(old)
		}
		checkEqual(t, a, b, true)
	})
	// A place has 6 fields and an operand 8, with the elements of its list.
	stmt, term := 2+6+(4+6+1+2*8), 2+(1+2)+(1+2*8)+6
	if want := 7 + 2 + 2*2 + 2*7 + 2*2 + 2*(1+2*stmt+term); fields != want {
		t.Errorf("%d fields were changed, not %d", fields, want)
	}
}

// P9.1: an empty list is equal to nil, in each place of a body.
func TestEmptyLists(t *testing.T) {
	b := fullBody()
	parts(value(&b), false, func(x reflect.Value) {
		if x.Kind() != reflect.Slice {
			return
		}
		old := x.Slice(0, x.Len())
		x.SetZero()
		a := copyOf(b)
		x.SetZero()
		checkSame(t, a, b)
		x.Set(reflect.MakeSlice(x.Type(), 0, 0))
		checkSame(t, a, b)
		x.Set(reflect.MakeSlice(x.Type(), 0, 3))
		checkSame(t, a, b)
		x.Set(old)
	})
}

// P9.1: fields that a kind does not use are compared and copied.
func TestUnusedFields(t *testing.T) {
	unused := api.Operand{Kind: api.ConstUnit, Place: place(4, api.Proj{Kind: api.Deref, Field: 7}), N: 3}
	for _, c := range [][2]api.Body{
		{{Types: []api.Type{{Kind: api.Int}}}, {Types: []api.Type{{Kind: api.Int, Region: 1}}}},
		{{Types: []api.Type{{Kind: api.Unit}}}, {Types: []api.Type{{Kind: api.Unit, Mut: true}}}},
		{{Types: []api.Type{{Kind: api.Ref}}}, {Types: []api.Type{{Kind: api.Ref, Fields: []int{0}}}}},
		{{Types: []api.Type{{Kind: api.Tuple}}}, {Types: []api.Type{{Kind: api.Tuple, Elem: 1}}}},
		{with(block(api.Term{}, api.Stmt{Kind: api.Nop})), with(block(api.Term{}, api.Stmt{Kind: api.Nop, Local: 1}))},
		{with(block(api.Term{}, api.Stmt{Kind: api.Nop})), with(block(api.Term{}, api.Stmt{Kind: api.Nop, Place: place(1)}))},
		{with(block(api.Term{}, api.Stmt{Kind: api.Dead})), with(block(api.Term{}, api.Stmt{Kind: api.Dead, Rvalue: api.Rvalue{Op: 1}}))},
		{with(block(api.Term{}, api.Stmt{Kind: 9})), with(block(api.Term{}, api.Stmt{Kind: 9, Rvalue: api.Rvalue{Args: []api.Operand{{}}}}))},
		{with(block(api.Term{}, assign(api.Operand{Kind: api.ConstUnit}))), with(block(api.Term{}, assign(unused)))},
		{with(block(api.Term{Kind: api.Return})), with(block(api.Term{Kind: api.Return, Targets: []int{0}}))},
		{with(block(api.Term{Kind: api.Return})), with(block(api.Term{Kind: api.Return, Name: "f"}))},
		{with(block(api.Term{Kind: api.Goto})), with(block(api.Term{Kind: api.Goto, Args: []api.Operand{unused}}))},
		{with(block(api.Term{Kind: -1})), with(block(api.Term{Kind: -1, Place: unused.Place}))},
	} {
		checkEqual(t, c[0], c[1], false)
		checkModel(t, c[0])
		checkModel(t, c[1])
	}
}

// P9.1: what is written into a copy is not seen in the body, and the other way round.
func TestCopiesAreSeparate(t *testing.T) {
	b := fullBody()
	c, d := checkClone(t, b), checkClone(t, b)
	checkNew(t, value(&c), value(&d))
	overwrite := func(x reflect.Value) {
		if x.Kind() == reflect.Int || x.Kind() == reflect.Int64 {
			x.SetInt(-7)
		} else if x.Kind() == reflect.String {
			x.SetString("changed")
		}
	}
	parts(value(&c), true, overwrite)
	checkEqual(t, b, fullBody(), true)
	checkEqual(t, d, fullBody(), true)
	checkEqual(t, c, b, false)
	parts(value(&b), true, overwrite)
	checkEqual(t, d, fullBody(), true)
	checkEqual(t, c, b, true)
}

// P9.1 and P9.3: lists that share memory in a body do not share any in a copy, nor in a list of operands.
func TestSharedLists(t *testing.T) {
	projs := []api.Proj{{Kind: api.Deref}, {Kind: api.Field, Field: 2}, {Kind: api.Field, Field: 5}}
	x, y := api.Operand{Kind: api.Copy, Place: place(1, projs[:2]...)}, api.Operand{Kind: api.Move, Place: place(1, projs[1:]...)}
	args := []api.Operand{x, y, x}
	s := api.Stmt{Place: x.Place, Rvalue: api.Rvalue{Kind: api.MakeTuple, Place: y.Place, Args: args}}
	stmts := []api.Stmt{s, s, s}
	targets := []int{0, 1}
	term := api.Term{Kind: api.If, Targets: targets, Args: args[1:], Place: x.Place}
	b := with(block(term, stmts...), block(term, stmts[1:]...))
	b.Types = []api.Type{{Kind: api.Tuple, Fields: targets}, {Kind: api.Tuple, Fields: targets[:1]}}
	checkModel(t, b)
	c := checkClone(t, b)
	got := checkOperands(t, b.Blocks[0], x, y, x, x, y, x, x, y, x, y, x)
	again := checkOperands(t, b.Blocks[0], got...)
	checkNew(t, value(&got), value(&again))
	c.Blocks[0].Stmts[0].Place.Proj[0].Field = 8
	c.Blocks[0].Term.Targets[0] = 9
	got[0].Place.Proj[1].Kind = 4
	_ = append(got[3].Place.Proj, api.Proj{Kind: 6})
	if n := reflect.ValueOf(projs); text(n, false) != "of 3: 0 0 1 2 1 5 " || targets[0] != 0 {
		t.Errorf("%v and %v were modified", projs, targets)
	}
	checkOperands(t, b.Blocks[0], again...)
	checkClone(t, b)
}

// P9.2: distinct identifiers in the order of their bytes; Bytes counts each of them as often as it occurs.
func TestNames(t *testing.T) {
	locals := func(names ...string) []api.Local {
		var l []api.Local
		for i, name := range names {
			l = append(l, api.Local{Name: name, Type: i})
		}
		return l
	}
	for _, c := range []struct {
		b    api.Body
		size int
		want []string
	}{
		{api.Body{Name: "f"}, 1, []string{"f"}},
		{api.Body{Name: "f", Regions: []string{"b", "a"}}, 3, []string{"a", "b", "f"}},
		{api.Body{Name: "f", Regions: []string{"f", "f"}}, 3, []string{"f"}},
		{api.Body{Name: "f", Locals: locals("x", "f", "x", "")}, 4, []string{"", "f", "x"}},
		{api.Body{Name: "main", Blocks: []api.Block{call("g"), call("main"), call("g")}}, 10, []string{"g", "main"}},
		{api.Body{Name: "f", Regions: []string{"r", "x"}, Locals: locals("x", "r", "f"), Blocks: []api.Block{call("x"), call("h")}}, 8, []string{"f", "h", "r", "x"}},
		{api.Body{Name: "b", Regions: []string{"aa", "B", "a", "_", "a0", "Z9", "b"}}, 11, []string{"B", "Z9", "_", "a", "a0", "aa", "b"}},
		{api.Body{Name: "a10", Locals: locals("a9", "a1", "A2", "a")}, 10, []string{"A2", "a", "a1", "a10", "a9"}},
		{api.Body{Name: "é", Locals: locals("z", "\xff", "\x00", "é", "世")}, 10, []string{"\x00", "z", "é", "世", "\xff"}},
		{api.Body{Name: "a", Regions: []string{"a\x00", "a ", "a"}}, 6, []string{"a", "a\x00", "a "}},
		{api.Body{Regions: []string{"", ""}, Locals: locals("")}, 0, []string{""}},
		{api.Body{Regions: []string{"r"}}, 1, []string{"", "r"}},
	} {
		checkNames(t, c.b, c.size, c.want...)
	}
}

// P9.2: the Name of a terminator counts if and only if its kind is Call, whatever else it has.
func TestTerminatorNames(t *testing.T) {
	for _, kind := range append([]int{7, math.MinInt32, 3 + 1<<32, 3 - 1<<32}, numbers...) {
		b := api.Body{Name: "f", Blocks: []api.Block{
			block(api.Term{Kind: kind, Name: "name", Args: []api.Operand{constant(1)}}), block(api.Term{Kind: api.Return}), call("g"),
		}}
		if kind == api.Call {
			checkNames(t, b, 6, "f", "g", "name")
		} else {
			checkNames(t, b, 2, "f", "g")
		}
		checkModel(t, b)
	}
	checkNames(t, api.Body{Name: "f", Blocks: []api.Block{call("")}}, 1, "", "f")
}

// P9.3: the nodes of each part; a part counts whether or not its kind uses it.
func TestNodes(t *testing.T) {
	projs := []api.Proj{{}, {Kind: api.Field, Field: 1}, {Kind: 9, Field: -1}}
	deep := api.Operand{Kind: api.ConstUnit, Place: place(0, projs...)}
	term := func(x api.Term) api.Body { return with(block(x)) }
	stmt := func(x ...api.Stmt) api.Body { return with(block(api.Term{}, x...)) }
	rvalue := func(x api.Rvalue) api.Body { return stmt(api.Stmt{Rvalue: x}) }
	for _, c := range []struct {
		b    api.Body
		want int
	}{
		{api.Body{}, 1},
		{api.Body{Name: "name", Args: 5}, 1},
		{api.Body{Regions: []string{"a", "a", ""}}, 4},
		{api.Body{Outlives: [][2]int{{0, 1}, {0, 0}}}, 3},
		{api.Body{Locals: []api.Local{{}, {Name: "x", Type: 9}, {}, {}}}, 5},
		{api.Body{Types: []api.Type{{}, {Kind: api.Ref, Region: 3, Elem: 4}}}, 3},
		{api.Body{Types: []api.Type{{Kind: api.Tuple, Fields: []int{0, 0, 1}}, {Kind: api.Tuple}}}, 6},
		{api.Body{Types: []api.Type{{Kind: api.Int, Fields: []int{4}}, {Kind: -1, Fields: []int{0, 0}}}}, 6},
		{with(api.Block{}), 4},
		{with(api.Block{}, api.Block{}, api.Block{}), 10},
		{stmt(api.Stmt{}), 8},
		{stmt(api.Stmt{Kind: api.Nop}, api.Stmt{Kind: api.Dead, Local: 3}, api.Stmt{Kind: 7}), 16},
		{stmt(api.Stmt{Kind: api.Nop, Place: place(2, projs...)}), 11},
		{stmt(api.Stmt{Kind: api.Dead, Place: place(2, projs[:1]...), Rvalue: api.Rvalue{Place: place(1, projs...)}}), 12},
		{rvalue(api.Rvalue{Kind: api.Borrow, Region: 5, Place: place(1, projs[:2]...)}), 10},
		{rvalue(api.Rvalue{Kind: api.Use, Op: 4, Args: []api.Operand{{}}}), 10},
		{rvalue(api.Rvalue{Kind: api.Borrow, Args: []api.Operand{constant(7), deep}}), 15},
		{rvalue(api.Rvalue{Kind: api.Binary, Place: place(0, projs[:1]...), Args: []api.Operand{deep, deep}}), 19},
		{term(api.Term{Kind: api.If, Targets: []int{0, 0}, Args: []api.Operand{{}}}), 8},
		{term(api.Term{Kind: api.Return, Targets: []int{-1}}), 5},
		{term(api.Term{Kind: api.Goto, Args: []api.Operand{deep, constant(1)}, Name: "f"}), 11},
		{term(api.Term{Kind: api.Call, Name: "f", Place: place(0, projs...), Targets: []int{1}}), 8},
		{term(api.Term{Kind: 6, Place: place(-1, projs[:2]...)}), 6},
		{fullBody(), 1 + 2 + 2 + 2 + 2*3 + 2*(1+2*(1+3+(1+3+2*4))+(1+2+2*4+3))},
	} {
		checkNodes(t, c.b, c.want)
	}
}

// P9.3: the operands of the statements in order, and then those of the terminator.
func TestOperands(t *testing.T) {
	x := api.Operand{Kind: api.Copy, Place: place(1, api.Proj{Kind: api.Deref})}
	y := api.Operand{Kind: api.Move, Place: place(2)}
	odd := api.Operand{Kind: -5, Place: place(-2, api.Proj{Kind: 8, Field: -8}), N: math.MinInt64}
	nop := api.Stmt{Kind: api.Nop, Rvalue: api.Rvalue{Kind: api.Borrow, Args: []api.Operand{odd}}}
	other := api.Stmt{Kind: 44, Rvalue: api.Rvalue{Kind: 44, Args: []api.Operand{constant(44)}}}
	borrow := api.Stmt{Place: x.Place, Rvalue: api.Rvalue{Kind: api.Borrow, Place: y.Place}}
	branch := api.Term{Kind: api.If, Args: []api.Operand{constant(9)}, Targets: []int{0, 1}}
	goOn := api.Term{Kind: api.Goto, Args: []api.Operand{odd, odd}, Targets: []int{0}}
	checkOperands(t, block(api.Term{Kind: api.Return}))
	checkOperands(t, block(api.Term{Kind: api.Drop, Place: x.Place}, borrow, api.Stmt{Kind: api.Dead, Local: 1}))
	checkOperands(t, block(branch), constant(9))
	checkOperands(t, block(api.Term{Kind: api.Return}, assign(x)), x)
	checkOperands(t, block(branch, assign(y, x, y)), y, x, y, constant(9))
	checkOperands(t, block(branch, assign(x), borrow, assign(), assign(y, constant(1))), x, y, constant(1), constant(9))
	checkOperands(t, block(goOn, nop, assign(x), other), odd, x, constant(44), odd, odd)
}

// P1 of the document: bodies may be greater than the limits; a difference at the end of a list is a difference.
func TestGreatBodies(t *testing.T) {
	const n = 70000
	projs := slices.Repeat([]api.Proj{{Kind: api.Field, Field: 3}}, n)
	args := slices.Repeat([]api.Operand{constant(4)}, n)
	args[n-1].Place.Proj = projs
	b := with(slices.Repeat([]api.Block{call("g")}, n)...)
	b.Name, b.Regions, b.Outlives = strings.Repeat("f", n), slices.Repeat([]string{"ra", "rb"}, n), slices.Repeat([][2]int{{0, 1}}, n)
	b.Types, b.Locals = slices.Repeat([]api.Type{{Kind: api.Int}}, n), slices.Repeat([]api.Local{{Name: "x"}}, n)
	b.Types[n-1].Fields = slices.Repeat([]int{2}, n)
	b.Blocks[n-1] = block(api.Term{Targets: slices.Repeat([]int{1}, n), Args: args}, slices.Repeat([]api.Stmt{assign()}, n)...)
	b.Blocks[n-1].Stmts[n-1].Rvalue.Args = args
	// Since one of the operands has n projections, all of them have 3 * n nodes.
	last := 1 + (4*n + 3*n) + (1 + n + 3*n + 1)
	checkNodes(t, b, 1+2*n+n+(n+n)+n+3*(n-1)+last)
	checkNames(t, b, n+2*n+2*n+n+n-1, slices.Sorted(slices.Values([]string{b.Name, "ra", "rb", "x", "g"}))...)
	checkOperands(t, b.Blocks[n-1], slices.Concat(args, args)...)
	c := checkClone(t, b)
	end := &c.Blocks[n-1]
	for _, x := range []*int{
		&c.Outlives[n-1][1], &c.Types[n-1].Fields[n-1], &c.Locals[n-1].Type, &end.Term.Targets[n-1],
		&end.Term.Args[n-1].Place.Proj[n-1].Field, &end.Stmts[n-1].Rvalue.Args[n-1].Place.Proj[n-1].Kind, &end.Stmts[n-1].Local,
	} {
		*x++
		if bodies.Equal(b, c) || bodies.Equal(c, b) {
			t.Error("a difference at the end of a list is not found")
		}
		*x--
	}
	checkEqual(t, b, c, true)
}

// P9.1 to P9.4: arbitrary bodies, compared with the model; equal bodies have equal names, nodes, bytes and operands, also if their slices have other capacities.
func TestAgainstModel(t *testing.T) {
	r := rand.New(rand.NewSource(1))
	nodes := 0
	for range 3000 {
		b := arbitrary(r.Intn)
		nodes += bodies.Nodes(b)
		checkModel(t, b)
		c := copyOf(b)
		checkSame(t, b, c)
		var all []reflect.Value
		parts(value(&c), false, func(x reflect.Value) { all = append(all, x) })
		for range 6 {
			x := all[r.Intn(len(all))]
			old := reflect.New(x.Type()).Elem()
			old.Set(x)
			fill(x, r.Intn)
			checkEqual(t, b, c, text(value(&b), false) == text(value(&c), false))
			checkModel(t, c)
			x.Set(old)
		}
		checkSame(t, b, c)
	}
	if nodes < 60000 {
		t.Errorf("the bodies have only %d nodes", nodes)
	}
}

// Rule 6 of the document: the functions may be called concurrently, with the same body as well.
func TestConcurrentCalls(t *testing.T) {
	r := rand.New(rand.NewSource(2))
	l := []api.Body{fullBody()}
	for range 50 {
		l = append(l, arbitrary(r.Intn))
	}
	var group sync.WaitGroup
	for range 8 {
		group.Go(func() {
			for _, b := range l {
				checkModel(t, b)
				checkSame(t, b, copyOf(b))
			}
		})
	}
	group.Wait()
}

// FuzzBodies compares two bodies, which are made of bytes, with the model.
func FuzzBodies(f *testing.F) {
	f.Add([]byte{}, []byte{})
	f.Add([]byte{1, 2, 3, 4}, []byte{1, 2, 3, 4, 0})
	f.Add([]byte{0, 3, 1, 2, 0, 0, 0, 0, 3, 2, 1}, []byte{2, 4, 1, 2, 3, 4, 5, 6, 7, 2, 2, 2})
	f.Fuzz(func(t *testing.T, x, y []byte) {
		a, b := arbitrary(build.Picker(x)), arbitrary(build.Picker(y))
		checkModel(t, a)
		checkModel(t, b)
		checkSame(t, a, copyOf(a))
		checkEqual(t, a, b, text(value(&a), false) == text(value(&b), false))
	})
}
