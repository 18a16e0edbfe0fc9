package valid_test

import (
	"fmt"
	"math"
	"math/rand"
	"reflect"
	"slices"
	"strings"
	"sync"
	"testing"

	"mirtower/api"
	"mirtower/build"
	"mirtower/places"
	"mirtower/regions"
	"mirtower/types"
	"mirtower/valid"
)

// star stands for a Deref in a list of projections, where any other number is the component of a Field.
const star = build.Star

// The types of the sample body.
const (
	unit     = iota
	boolean  // bool
	integer  // int
	refA     // &'a int
	refB     // &'b int
	refC     // &'c int
	refD     // &'d int
	mutA     // &'a mut int
	mutB     // &'b mut int
	pair     // (int, bool)
	refPair  // &'a (int, bool)
	mutPair  // &'b mut (int, bool)
	refs     // (&'a int, &'a mut int)
	refsB    // (&'b int, &'b mut int)
	refRefA  // &'a &'a int
	refRefB  // &'b &'b int
	mutRefA  // &'a mut &'a int
	mutRefB  // &'a mut &'b int
	refMutA  // &'a &'a mut int
	mutMutA  // &'c mut &'a mut int
	triple   // (&'b int, (int, bool), unit)
	mutRefs  // &'b mut (&'a int, &'a mut int)
	pairB    // (bool, int)
	refRefs  // &'c &'b mut (&'a int, &'a mut int)
	typesNum // how many there are
)

// The regions of the sample body: a outlives b, b outlives c, and d is on its own.
const (
	regA = iota
	regB
	regC
	regD
)

// ref returns a reference whose Mut is false.
func ref(region, elem int) api.Type { return api.Type{Kind: api.Ref, Region: region, Elem: elem} }

// mutRef returns a reference whose Mut is true.
func mutRef(region, elem int) api.Type {
	return api.Type{Kind: api.Ref, Mut: true, Region: region, Elem: elem}
}

// The functions of package build under short names.
var (
	tuple                                 = build.Tuple
	number, truth, nothing                = build.Number, build.Truth, build.Nothing
	use, borrow, unary, binary, makeTuple = build.Use, build.Borrow, build.Unary, build.Binary, build.MakeTuple
	assign, goTo, branch, drop            = build.Assign, build.Goto, build.Branch, build.Drop
)

// in returns a place in the local of a type of the sample body.
func in(t int, projs ...int) api.Place { return build.At(typesNum-1-t, projs...) }

// copyOf and move return operands with a place in the local of a type of the sample body.
func copyOf(t int, projs ...int) api.Operand { return build.CopyOf(typesNum-1-t, projs...) }

func move(t int, projs ...int) api.Operand { return build.Move(typesNum-1-t, projs...) }

// call returns a call of a function.
func call(name string, p api.Place, target int, l ...api.Operand) api.Term {
	t := build.Call(p, target, l...)
	t.Name = name
	return t
}

// goodOperands returns operands that are valid in the sample body.
func goodOperands() []api.Operand {
	return []api.Operand{
		number(0), number(math.MinInt64), number(math.MaxInt64), truth(0), truth(1), nothing(),
		copyOf(unit), copyOf(pair), copyOf(pair, 0), copyOf(refB), copyOf(refB, star), copyOf(mutA, star), copyOf(refPair, star, 1), copyOf(refMutA), copyOf(refMutA, star, star), copyOf(refs, 0), copyOf(triple),
		move(unit), move(integer), move(mutA), move(refs), move(refs, 1), move(refD), move(triple, 1, 0),
	}
}

// goodStmts returns statements that are valid in the sample body.
func goodStmts() []api.Stmt {
	return []api.Stmt{
		{Kind: api.Nop}, {Kind: api.Dead}, {Kind: api.Dead, Local: typesNum - 1},
		assign(in(integer), use(number(-4))),
		assign(in(boolean), use(truth(1))),
		assign(in(unit), use(nothing())),
		assign(in(pair, 1), use(copyOf(pairB, 0))),
		assign(in(mutPair, star), use(copyOf(pair))),
		assign(in(refB), use(copyOf(refA))),
		assign(in(refC), use(move(refs, 0))),
		assign(in(mutB), use(move(mutA))),
		assign(in(refsB), use(move(refs))),
		assign(in(refRefB), use(copyOf(refRefA))),
		assign(in(mutRefA), use(move(mutRefA))),
		assign(in(triple, 2), use(nothing())),
		assign(in(refA), borrow(regA, false, in(integer))),
		assign(in(refD), borrow(regD, false, in(pair, 0))),
		assign(in(mutA), borrow(regA, true, in(pair, 0))),
		assign(in(mutB), borrow(regB, true, in(mutRefs, star, 1, star))),
		assign(in(refC), borrow(regC, false, in(refRefs, star, star, 0, star))),
		assign(in(refA), borrow(regA, false, in(refRefA, star, star))),
		assign(in(mutRefs, star, 0), borrow(regA, false, in(mutA, star))),
		assign(in(refMutA), borrow(regA, false, in(mutA))),
		assign(in(integer), unary(api.Neg, copyOf(pair, 0))),
		assign(in(pair, 1), unary(api.Not, truth(0))),
		assign(in(integer), binary(api.Add, copyOf(integer), number(1))),
		assign(in(mutA, star), binary(api.Sub, move(pair, 0), copyOf(mutA, star))),
		assign(in(pairB, 1), binary(api.Mul, number(3), number(4))),
		assign(in(boolean), binary(api.Eq, number(3), copyOf(refA, star))),
		assign(in(boolean), binary(api.Lt, copyOf(integer), copyOf(integer))),
		assign(in(mutPair, star, 1), binary(api.And, truth(1), copyOf(boolean))),
		assign(in(pair), makeTuple(number(4), truth(0))),
		assign(in(refsB), makeTuple(copyOf(refA), move(mutA))),
		assign(in(triple), makeTuple(copyOf(refB), move(pair), nothing())),
	}
}

// goodTerms returns terminators that are valid in the sample body.
func goodTerms() []api.Term {
	return []api.Term{
		{Kind: api.Return}, {Kind: api.Unreachable}, goTo(0), goTo(2),
		branch(truth(1), 0, 2), branch(copyOf(pair, 1), 1, 1), branch(move(boolean), 2, 0),
		call("g", in(integer), 1), call("_9", in(mutPair, star), 0, number(1), copyOf(refPair), nothing(), move(mutA)),
		drop(in(mutA), 2), drop(in(refs, 1), 0), drop(in(unit), 1),
	}
}

// sample returns a valid body, in new memory.
func sample() api.Body {
	b := api.Body{
		Name:     "main",
		Regions:  []string{"a", "b", "c", "d"},
		Outlives: [][2]int{{regA, regB}, {regB, regC}},
		Types: []api.Type{
			{Kind: api.Unit}, {Kind: api.Bool}, {Kind: api.Int},
			ref(regA, integer), ref(regB, integer), ref(regC, integer), ref(regD, integer), mutRef(regA, integer), mutRef(regB, integer),
			tuple(integer, boolean), ref(regA, pair), mutRef(regB, pair), tuple(refA, mutA), tuple(refB, mutB),
			ref(regA, refA), ref(regB, refB), mutRef(regA, refA), mutRef(regA, refB), ref(regA, mutA), mutRef(regC, mutA),
			tuple(refB, pair, unit), mutRef(regB, refs), tuple(boolean, integer), ref(regC, mutRefs),
		},
		Args: 3,
	}
	// The locals are in the order opposite to that of the types, so that the number of a local differs from that of its type.
	for i := range typesNum {
		b.Locals = append(b.Locals, api.Local{Name: fmt.Sprint("x", i), Type: typesNum - 1 - i})
	}
	b.Blocks = []api.Block{
		{Stmts: []api.Stmt{assign(in(integer), use(number(4))), {Kind: api.Dead, Local: 1}}, Term: goTo(2)},
		{Term: call("g", in(pair), 0, copyOf(refA), nothing())},
		{Stmts: []api.Stmt{
			{Kind: api.Nop}, assign(in(refA), borrow(regA, false, in(integer))), assign(in(refC), use(copyOf(refA))), assign(in(pair), makeTuple(number(2), truth(1))),
		}, Term: api.Term{Kind: api.Return}},
	}
	return b
}

// small returns a valid body without regions, in new memory.
func small() api.Body {
	return api.Body{
		Name:   "f",
		Types:  []api.Type{{Kind: api.Int}, {Kind: api.Bool}},
		Locals: []api.Local{{Name: "x", Type: 0}, {Name: "y", Type: 1}},
		Blocks: []api.Block{{Stmts: []api.Stmt{assign(api.Place{}, use(number(3)))}, Term: api.Term{Kind: api.Return}}},
	}
}

// isZero reports whether a value has only zero fields and empty slices.
func isZero(v reflect.Value) bool {
	switch v.Kind() {
	case reflect.Slice:
		return v.Len() == 0
	case reflect.Struct:
		for i := range v.NumField() {
			if !isZero(v.Field(i)) {
				return false
			}
		}
		return true
	}
	return v.IsZero()
}

// need ends the model's check with an error if something is not so.
func need(so bool, e api.Errno) {
	if !so {
		panic(e)
	}
}

// needOK ends the model's check with an error of a lower layer.
func needOK(e api.Errno) { need(e == api.OK, e) }

// outcome returns the error with which a check of the model ends.
func outcome(check func()) (e api.Errno) {
	defer func() {
		if x := recover(); x != nil {
			e = x.(api.Errno)
		}
	}()
	check()
	return api.OK
}

// needZero ends the model's check if one of the fields of a struct that are not used is not zero.
func needZero(v any, unused string) {
	for _, name := range strings.Fields(unused) {
		need(isZero(reflect.ValueOf(v).FieldByName(name)), api.ErrArg)
	}
}

// The fields that the kinds of statements, rvalues and terminators do not use.
var (
	stmtUnused   = []string{"Local", "Place Rvalue", "Place Rvalue Local"}
	rvalueUnused = []string{"Op Region Mut Place", "Op Args", "Region Mut Place", "Region Mut Place", "Op Region Mut Place"}
	termUnused   = []string{"Args Place Name", "Place Name", "Targets Args Place Name", "", "Args Name", "Targets Args Place Name"}
)

// model checks the parts of a body as the chapter says it.
type model struct{ b api.Body }

// typeOf returns the type of a place.
func (m model) typeOf(p api.Place) int {
	t, e := places.TypeOf(m.b.Types, m.b.Locals, p)
	needOK(e)
	return t
}

// mutable reports whether a place is mutable.
func (m model) mutable(p api.Place) bool { return places.Mutable(m.b.Types, m.b.Locals, p) }

// outlives reports whether a region outlives another one, given the regions that are known to lead from the first one.
func (m model) outlives(a, b int, seen ...int) bool {
	if a == b {
		return true
	}
	for _, x := range m.b.Outlives {
		if x[0] == a && !slices.Contains(seen, x[1]) && m.outlives(x[1], b, append(slices.Clone(seen), a)...) {
			return true
		}
	}
	return false
}

// subtype reports whether a type is a subtype of another one.
func (m model) subtype(i, j int) bool {
	s, t := m.b.Types[i], m.b.Types[j]
	if s.Kind != t.Kind || s.Mut != t.Mut || len(s.Fields) != len(t.Fields) {
		return false
	}
	for i := range s.Fields {
		if !m.subtype(s.Fields[i], t.Fields[i]) {
			return false
		}
	}
	return s.Kind != api.Ref || m.outlives(s.Region, t.Region) && m.subtype(s.Elem, t.Elem) && (!s.Mut || m.subtype(t.Elem, s.Elem))
}

// operand checks an operand.
func (m model) operand(o api.Operand) {
	need(o.Kind >= 0 && o.Kind <= 4, api.ErrKind)
	isPlace := o.Kind <= 1
	need(o.N == 0 || o.Kind == 2 || o.Kind == 3, api.ErrArg)
	need(isPlace || isZero(reflect.ValueOf(o.Place)), api.ErrArg)
	need(o.Kind != 3 || o.N == 0 || o.N == 1, api.ErrRange)
	if isPlace {
		t := m.typeOf(o.Place)
		need(o.Kind == 1 || types.Copyable(m.b.Types, t), api.ErrType)
		need(o.Kind == 0 || !slices.Contains(o.Place.Proj, api.Proj{}), api.ErrType)
	}
}

// fitsKind reports whether an operand fits a kind.
func (m model) fitsKind(o api.Operand, kind int) bool {
	if o.Kind <= 1 {
		return m.b.Types[m.typeOf(o.Place)].Kind == kind
	}
	return []int{api.Int, api.Bool, api.Unit}[o.Kind-2] == kind
}

// fits reports whether an operand fits a type.
func (m model) fits(o api.Operand, t int) bool {
	if o.Kind <= 1 {
		return m.subtype(m.typeOf(o.Place), t)
	}
	return m.fitsKind(o, m.b.Types[t].Kind)
}

// stmt checks a statement.
func (m model) stmt(s api.Stmt) {
	need(s.Kind >= 0 && s.Kind <= 2, api.ErrKind)
	needZero(s, stmtUnused[s.Kind])
	switch s.Kind {
	case 0:
		t := m.typeOf(s.Place)
		need(m.mutable(s.Place), api.ErrType)
		m.rvalue(s.Rvalue, t)
	case 1:
		need(s.Local >= 0 && s.Local < len(m.b.Locals), api.ErrRange)
	}
}

// rvalue checks an rvalue that is assigned to a place of a type.
func (m model) rvalue(v api.Rvalue, index int) {
	t := m.b.Types[index]
	need(v.Kind >= 0 && v.Kind <= 4, api.ErrKind)
	needZero(v, rvalueUnused[v.Kind])
	need(len(v.Args) == []int{1, 0, 1, 2, len(v.Args)}[v.Kind], api.ErrArg)
	switch v.Kind {
	case 0:
		m.operand(v.Args[0])
		need(m.fits(v.Args[0], index), api.ErrType)
	case 1:
		elem := m.typeOf(v.Place)
		need(v.Region >= 0 && v.Region < len(m.b.Regions), api.ErrRange)
		need(t.Kind == api.Ref && t.Region == v.Region && t.Mut == v.Mut && t.Elem == elem, api.ErrType)
		need(!v.Mut || m.mutable(v.Place), api.ErrType)
		for _, r := range places.Regions(m.b.Types, m.b.Locals, v.Place) {
			need(m.outlives(r, v.Region), api.ErrType)
		}
	case 2:
		need(v.Op == api.Neg || v.Op == api.Not, api.ErrKind)
		m.operand(v.Args[0])
		kind := api.Int
		if v.Op == api.Not {
			kind = api.Bool
		}
		need(m.fitsKind(v.Args[0], kind) && t.Kind == kind, api.ErrType)
	case 3:
		need(v.Op >= 0 && v.Op <= 5, api.ErrKind)
		m.operand(v.Args[0])
		m.operand(v.Args[1])
		from, to := api.Int, api.Bool
		if v.Op == api.And {
			from = api.Bool
		}
		if v.Op <= api.Mul {
			to = api.Int
		}
		need(m.fitsKind(v.Args[0], from) && m.fitsKind(v.Args[1], from) && t.Kind == to, api.ErrType)
	case 4:
		need(t.Kind == api.Tuple && len(t.Fields) == len(v.Args), api.ErrType)
		for i, o := range v.Args {
			m.operand(o)
			need(m.fits(o, t.Fields[i]), api.ErrType)
		}
	}
}

// term checks a terminator.
func (m model) term(t api.Term) {
	need(t.Kind >= 0 && t.Kind <= 5, api.ErrKind)
	needZero(t, termUnused[t.Kind])
	need(len(t.Targets) == []int{1, 2, 0, 1, 1, 0}[t.Kind], api.ErrArg)
	need(t.Kind != api.If || len(t.Args) == 1, api.ErrArg)
	for _, x := range t.Targets {
		need(x >= 0 && x < len(m.b.Blocks), api.ErrRange)
	}
	switch t.Kind {
	case api.If:
		m.operand(t.Args[0])
		need(m.fitsKind(t.Args[0], api.Bool), api.ErrType)
	case api.Call:
		needIdent(t.Name)
		need(len(t.Args) < 65536, api.ErrLimit)
		for _, o := range t.Args {
			m.operand(o)
		}
		m.typeOf(t.Place)
		need(m.mutable(t.Place), api.ErrType)
	case api.Drop:
		m.typeOf(t.Place)
		need(!slices.Contains(t.Place.Proj, api.Proj{}), api.ErrType)
	}
}

// needIdent ends the model's check if a string is no identifier.
func needIdent(s string) {
	const letters = "_abcdefghijklmnopqrstuvwxyzABCDEFGHIJKLMNOPQRSTUVWXYZ"
	need(s != "" && len(s) < 256, api.ErrString)
	need(strings.Contains(letters, s[:1]), api.ErrString)
	need(strings.Trim(s, letters+"0123456789") == "", api.ErrString)
}

// body checks a body.
func (m model) body() {
	needIdent(m.b.Name)
	need(len(m.b.Regions) < 65536, api.ErrLimit)
	for i, name := range m.b.Regions {
		needIdent(name)
		need(!slices.Contains(m.b.Regions[:i], name), api.ErrDuplicate)
	}
	needOK(regions.Check(m.b.Outlives, len(m.b.Regions)))
	needOK(types.Check(m.b.Types, len(m.b.Regions)))
	need(len(m.b.Locals) < 65536, api.ErrLimit)
	for i, x := range m.b.Locals {
		needIdent(x.Name)
		need(!slices.ContainsFunc(m.b.Locals[:i], func(y api.Local) bool { return y.Name == x.Name }), api.ErrDuplicate)
		need(x.Type >= 0 && x.Type < len(m.b.Types), api.ErrRange)
	}
	need(m.b.Args >= 0 && m.b.Args <= len(m.b.Locals), api.ErrRange)
	need(len(m.b.Blocks) > 0 && len(m.b.Blocks) < 65536, api.ErrLimit)
	for _, x := range m.b.Blocks {
		need(len(x.Stmts) < 65536, api.ErrLimit)
		for _, s := range x.Stmts {
			m.stmt(s)
		}
		m.term(x.Term)
	}
}

// text returns a part of a body as it may be printed.
func text(x any) string {
	s := fmt.Sprintf("%+v", x)
	return s[:min(len(s), 1200)]
}

// checkResult compares the result of a call for a part of a body with what is wanted.
func checkResult(t *testing.T, part any, got, want api.Errno) {
	t.Helper()
	if got != want {
		t.Errorf("%s: got %v, want %v", text(part), got, want)
	}
}

// checkOperand checks the result for an operand, also of the model.
func checkOperand(t *testing.T, b api.Body, o api.Operand, want api.Errno) {
	t.Helper()
	checkResult(t, o, valid.Operand(b, o), want)
	checkResult(t, "the model, "+text(o), outcome(func() { model{b}.operand(o) }), want)
}

// checkStmt checks the result for a statement, also of the model.
func checkStmt(t *testing.T, b api.Body, s api.Stmt, want api.Errno) {
	t.Helper()
	checkResult(t, s, valid.Stmt(b, s), want)
	checkResult(t, "the model, "+text(s), outcome(func() { model{b}.stmt(s) }), want)
}

// checkTerm checks the result for a terminator, also of the model.
func checkTerm(t *testing.T, b api.Body, x api.Term, want api.Errno) {
	t.Helper()
	checkResult(t, x, valid.Term(b, x), want)
	checkResult(t, "the model, "+text(x), outcome(func() { model{b}.term(x) }), want)
}

// checkBody checks the result for a body, also of the model.
func checkBody(t *testing.T, b api.Body, want api.Errno) {
	t.Helper()
	checkResult(t, b, valid.Check(b), want)
	checkResult(t, "the model, "+text(b), outcome(model{b}.body), want)
}

// checkConsequences checks what P10.3 says of a body.
func checkConsequences(t *testing.T, b api.Body) {
	t.Helper()
	// With a single valid block, only the declaration part and the number of blocks decide.
	declared := b
	declared.Blocks = []api.Block{{Term: api.Term{Kind: api.Return}}}
	if valid.Check(declared) != api.OK || len(b.Blocks) == 0 {
		if valid.Check(b) == api.OK {
			t.Errorf("%s is valid, but its declaration part is not", text(b))
		}
		return
	}
	first := api.OK
	note := func(e api.Errno) {
		if first == api.OK {
			first = e
		}
	}
	for _, x := range b.Blocks {
		for _, s := range x.Stmts {
			note(valid.Stmt(b, s))
			for _, o := range s.Rvalue.Args {
				if e := valid.Operand(b, o); e != api.OK && valid.Stmt(b, s) == api.OK {
					t.Errorf("%s is valid, but its operand %s is not: %v", text(s), text(o), e)
				}
			}
		}
		note(valid.Term(b, x.Term))
		for _, o := range x.Term.Args {
			if e := valid.Operand(b, o); e != api.OK && valid.Term(b, x.Term) == api.OK {
				t.Errorf("%s is valid, but its operand %s is not: %v", text(x.Term), text(o), e)
			}
		}
	}
	checkResult(t, b, valid.Check(b), first)
}

// value returns a value that can be changed.
func value[T any](x *T) reflect.Value { return reflect.ValueOf(x).Elem() }

// parts visits a value and all values in it.
func parts(v reflect.Value, visit func(reflect.Value)) {
	visit(v)
	switch v.Kind() {
	case reflect.Struct:
		for i := range v.NumField() {
			parts(v.Field(i), visit)
		}
	case reflect.Slice, reflect.Array:
		for i := range v.Len() {
			parts(v.Index(i), visit)
		}
	}
}

// clone returns a value that shares no memory with another one.
func clone[T any](x T) T {
	parts(value(&x), func(v reflect.Value) {
		if v.Kind() == reflect.Slice && v.Len() > 0 {
			l := reflect.MakeSlice(v.Type(), v.Len(), v.Len())
			reflect.Copy(l, v)
			v.Set(l)
		}
	})
	return x
}

// changes returns the values to which a part of a body is changed in tests.
func changes(v reflect.Value) []reflect.Value {
	var l []any
	switch v.Kind() {
	case reflect.Int:
		l = []any{0, 1, 2, 3, 4, 5, 6, typesNum - 1, typesNum, -1, math.MinInt, math.MaxInt, 1 << 32}
	case reflect.Int64:
		l = []any{int64(0), int64(1), int64(2), int64(-1), int64(math.MinInt64), int64(math.MaxInt64), int64(1 << 32), int64(1<<32 + 1)}
	case reflect.Bool:
		l = []any{false, true}
	case reflect.String:
		l = []any{"", "a", "x2", "main", "9a", "a b", "é", "a\x00", strings.Repeat("n", 255), strings.Repeat("n", 256)}
	case reflect.Slice:
		return otherLists(v)
	}
	var values []reflect.Value
	for _, x := range l {
		values = append(values, reflect.ValueOf(x))
	}
	return values
}

// otherLists returns lists that differ from a list by an element.
func otherLists(v reflect.Value) []reflect.Value {
	n := v.Len()
	zero := reflect.Zero(v.Type().Elem())
	plain := v.Slice3(0, n, n)
	l := []reflect.Value{reflect.Zero(v.Type()), reflect.MakeSlice(v.Type(), 0, 0), reflect.Append(plain, zero)}
	if n > 0 {
		l = append(l, v.Slice(0, n-1), v.Slice(1, n), reflect.Append(plain, v.Index(0)), reflect.Append(plain, v.Index(n-1)))
	}
	return l
}

// eachChange makes each change of a part of a value, one at a time, and calls check for the changed value.
func eachChange[T any](x T, check func(T)) {
	x = clone(x)
	parts(value(&x), func(v reflect.Value) {
		old := reflect.New(v.Type()).Elem()
		old.Set(v)
		for _, y := range changes(v) {
			v.Set(y)
			check(x)
		}
		v.Set(old)
	})
}

// changed returns a copy of a value in which up to n parts are changed to what pick chooses, which is called with the number of choices.
func changed[T any](x T, n int, pick func(int) int) T {
	x = clone(x)
	for range n {
		var l []reflect.Value
		parts(value(&x), func(v reflect.Value) {
			if len(changes(v)) > 0 {
				l = append(l, v)
			}
		})
		v := l[pick(len(l))]
		choices := changes(v)
		v.Set(choices[pick(len(choices))])
		// A list may have been replaced by one that shares elements with it.
		x = clone(x)
	}
	return x
}

// tally counts errors.
type tally map[api.Errno]int

// need checks that each of some errors has been counted n times.
func (c tally) need(t *testing.T, n int, errors ...api.Errno) {
	t.Helper()
	for _, e := range errors {
		if c[e] < n {
			t.Errorf("only %d times %v; all: %v", c[e], e, c)
		}
	}
}

// P10.1 and P10.2: the examples of the chapter and of the document.
func TestExamples(t *testing.T) {
	b := small()
	checkBody(t, b, api.OK)
	checkStmt(t, b, assign(api.Place{}, use(truth(1))), api.ErrType)
	checkStmt(t, b, assign(api.Place{Local: 1}, use(truth(1))), api.OK)
	b.Locals = b.Locals[:1]
	checkStmt(t, b, assign(api.Place{Local: 1}, use(number(1))), api.ErrRange)
	b.Blocks = nil
	checkBody(t, b, api.ErrLimit)
	b = sample()
	checkOperand(t, b, copyOf(mutA), api.ErrType)
	checkOperand(t, b, move(mutA), api.OK)
	checkBody(t, api.Body{Name: "f", Blocks: []api.Block{{Term: api.Term{Kind: api.Return}}}}, api.OK)
}

// P10.1 and P10.3: what is valid, alone and in a body.
func TestGoodParts(t *testing.T) {
	b := sample()
	checkBody(t, b, api.OK)
	for _, o := range goodOperands() {
		checkOperand(t, b, o, api.OK)
	}
	for _, s := range goodStmts() {
		checkStmt(t, b, s, api.OK)
	}
	b.Blocks = nil
	for range goodTerms() {
		b.Blocks = append(b.Blocks, api.Block{Stmts: goodStmts()})
	}
	for i, x := range goodTerms() {
		checkTerm(t, b, x, api.OK)
		b.Blocks[i].Term = x
	}
	checkBody(t, b, api.OK)
	checkConsequences(t, b)
}

// P10.1: each error of an operand, and the order of its errors.
func TestOperands(t *testing.T) {
	b := sample()
	projected := api.Place{Proj: []api.Proj{{Kind: api.Field}}}
	for _, c := range []struct {
		o api.Operand
		e api.Errno
	}{
		{api.Operand{Kind: 5}, api.ErrKind},
		{api.Operand{Kind: -1, N: 1, Place: projected}, api.ErrKind},
		{api.Operand{Kind: math.MaxInt}, api.ErrKind},
		{api.Operand{Kind: 1<<32 + api.ConstInt}, api.ErrKind},
		{api.Operand{Kind: api.ConstUnit, N: 1}, api.ErrArg},
		{api.Operand{Kind: api.Copy, N: -1, Place: in(integer)}, api.ErrArg},
		{api.Operand{Kind: api.Move, N: 1, Place: api.Place{Local: -1}}, api.ErrArg},
		{api.Operand{Kind: api.ConstInt, Place: api.Place{Local: 1}}, api.ErrArg},
		{api.Operand{Kind: api.ConstInt, Place: projected}, api.ErrArg},
		{api.Operand{Kind: api.ConstUnit, Place: projected}, api.ErrArg},
		{api.Operand{Kind: api.ConstBool, N: 2, Place: api.Place{Local: 1}}, api.ErrArg},
		{api.Operand{Kind: api.ConstInt, Place: api.Place{Proj: []api.Proj{}}}, api.OK},
		{truth(2), api.ErrRange}, {truth(-1), api.ErrRange}, {truth(math.MinInt64), api.ErrRange}, {truth(1 << 32), api.ErrRange},
		{copyOf(-1), api.ErrRange}, {move(typesNum), api.ErrRange},
		{copyOf(pair, 2), api.ErrRange}, {move(pair, star), api.ErrType}, {copyOf(integer, 0), api.ErrType},
		{api.Operand{Kind: api.Copy, Place: api.Place{Proj: []api.Proj{{Kind: 2}}}}, api.ErrKind},
		{api.Operand{Kind: api.Move, Place: api.Place{Proj: []api.Proj{{Kind: api.Deref, Field: 1}}}}, api.ErrArg},
		{api.Operand{Kind: api.Copy, Place: api.Place{Proj: make([]api.Proj, 33)}}, api.ErrDepth},
		{copyOf(mutA), api.ErrType}, {copyOf(refs), api.ErrType}, {copyOf(refs, 1), api.ErrType}, {copyOf(refMutA, star), api.ErrType},
		{move(refA, star), api.ErrType}, {move(mutRefs, star, 1), api.ErrType}, {move(mutPair, star), api.ErrType}, {move(refRefs, star, star, 0, star), api.ErrType},
		{move(refMutA, star, 3), api.ErrType}, {move(mutRefs, star, 2), api.ErrRange},
	} {
		checkOperand(t, b, c.o, c.e)
		// In an assignment, the error of an operand precedes that it does not fit.
		checkStmt(t, b, assign(in(refRefs), use(c.o)), max(c.e, api.ErrType*api.Errno(one(c.e == api.OK))))
	}
}

// one returns 1 or 0.
func one(so bool) int {
	if so {
		return 1
	}
	return 0
}

// P10.1: each error of a statement other than those of its operands, and their order.
func TestStmts(t *testing.T) {
	b := sample()
	odd := api.Rvalue{Kind: 9, Op: 9, Region: 9, Mut: true}
	for _, c := range []struct {
		s api.Stmt
		e api.Errno
	}{
		{api.Stmt{Kind: 3}, api.ErrKind},
		{api.Stmt{Kind: -1, Place: in(-1), Rvalue: odd, Local: -1}, api.ErrKind},
		{api.Stmt{Kind: 1 << 32}, api.ErrKind},
		{api.Stmt{Kind: api.Assign, Local: 1, Place: in(-1), Rvalue: odd}, api.ErrArg},
		{api.Stmt{Kind: api.Assign, Local: -1, Place: in(integer), Rvalue: use(number(1))}, api.ErrArg},
		{api.Stmt{Kind: api.Dead, Local: -1, Place: in(integer)}, api.ErrArg},
		{api.Stmt{Kind: api.Dead, Place: api.Place{Proj: make([]api.Proj, 1)}}, api.ErrArg},
		{api.Stmt{Kind: api.Dead, Rvalue: use(number(1))}, api.ErrArg},
		{api.Stmt{Kind: api.Dead, Rvalue: api.Rvalue{Kind: 1}}, api.ErrArg},
		{api.Stmt{Kind: api.Dead, Local: -1, Rvalue: api.Rvalue{Op: -1}}, api.ErrArg},
		{api.Stmt{Kind: api.Dead, Rvalue: api.Rvalue{Region: 1}}, api.ErrArg},
		{api.Stmt{Kind: api.Dead, Rvalue: api.Rvalue{Mut: true}}, api.ErrArg},
		{api.Stmt{Kind: api.Dead, Rvalue: api.Rvalue{Place: in(integer)}}, api.ErrArg},
		{api.Stmt{Kind: api.Dead, Rvalue: api.Rvalue{Args: make([]api.Operand, 1)}}, api.ErrArg},
		{api.Stmt{Kind: api.Dead, Local: -1}, api.ErrRange},
		{api.Stmt{Kind: api.Dead, Local: typesNum}, api.ErrRange},
		{api.Stmt{Kind: api.Dead, Local: math.MinInt}, api.ErrRange},
		{api.Stmt{Kind: api.Nop, Local: 1}, api.ErrArg},
		{api.Stmt{Kind: api.Nop, Place: in(integer)}, api.ErrArg},
		{api.Stmt{Kind: api.Nop, Rvalue: api.Rvalue{Mut: true}}, api.ErrArg},
		{assign(in(-1), odd), api.ErrRange},
		{assign(in(typesNum), odd), api.ErrRange},
		{assign(in(pair, 2), odd), api.ErrRange},
		{assign(in(pair, star), odd), api.ErrType},
		{assign(in(refA, star), odd), api.ErrType},
		{assign(in(refMutA, star, star), odd), api.ErrType},
		{assign(in(refRefs, star, star, 0), odd), api.ErrType},
		{assign(in(mutRefA, star, star), use(number(1))), api.ErrType},
		{assign(in(integer), odd), api.ErrKind},
		{assign(in(integer), api.Rvalue{Kind: -1}), api.ErrKind},
		{assign(in(integer), api.Rvalue{Kind: 5, Args: []api.Operand{number(1)}}), api.ErrKind},
	} {
		checkStmt(t, b, c.s, c.e)
	}
	for _, s := range []api.Stmt{{Kind: api.Nop}, {Kind: api.Dead}, assign(in(integer), unary(api.Neg, number(1)))} {
		s.Place.Proj, s.Rvalue.Place.Proj = []api.Proj{}, []api.Proj{}
		s.Rvalue.Args = append([]api.Operand{}, s.Rvalue.Args...)
		checkStmt(t, b, s, api.OK)
	}
}

// P10.1: the fields that an rvalue uses, which precede all that they say.
func TestRvalueFields(t *testing.T) {
	b := sample()
	bad := api.Operand{Kind: 9}
	good := []api.Stmt{
		assign(in(integer), use(number(1))), assign(in(refA), borrow(regA, false, in(integer))), assign(in(integer), unary(api.Neg, number(1))),
		assign(in(boolean), binary(api.Lt, number(1), number(2))), assign(in(pair), makeTuple(number(1), truth(0))),
	}
	for kind, s := range good {
		checkStmt(t, b, s, api.OK)
		for _, c := range []struct {
			change func(*api.Rvalue)
			kinds  string
		}{
			{func(v *api.Rvalue) { v.Op = 1 }, "014"},
			{func(v *api.Rvalue) { v.Op = -1 }, "014"},
			{func(v *api.Rvalue) { v.Region = -1 }, "0234"},
			{func(v *api.Rvalue) { v.Mut = true }, "0234"},
			{func(v *api.Rvalue) { v.Place.Local = -1 }, "0234"},
			{func(v *api.Rvalue) { v.Place.Proj = []api.Proj{{}} }, "0234"},
			{func(v *api.Rvalue) { v.Args = []api.Operand{} }, "023"},
			{func(v *api.Rvalue) { v.Args = []api.Operand{bad} }, "13"},
			{func(v *api.Rvalue) { v.Args = []api.Operand{bad, bad} }, "012"},
			{func(v *api.Rvalue) { v.Args = []api.Operand{bad, bad, bad} }, "0123"},
		} {
			x := clone(s)
			c.change(&x.Rvalue)
			e := outcome(func() { model{b}.stmt(x) })
			if strings.Contains(c.kinds, fmt.Sprint(kind)) {
				e = api.ErrArg
				// An operator that is unknown, and an operand that is not valid, are checked later.
				y := clone(x)
				if kind == api.Unary || kind == api.Binary {
					y.Rvalue.Op = 99
				}
				if len(y.Rvalue.Args) > 0 {
					y.Rvalue.Args[0] = bad
				}
				checkStmt(t, b, y, api.ErrArg)
				// But the kind of the rvalue is checked before.
				y.Rvalue.Kind = 5
				checkStmt(t, b, y, api.ErrKind)
			} else if e == api.ErrArg {
				t.Errorf("%s: the model has ErrArg", text(x))
			}
			checkStmt(t, b, x, e)
		}
	}
}

// P10.1: the operand of a Use fits the type of the place if it is a constant of its kind, or of a subtype.
func TestUses(t *testing.T) {
	b := sample()
	for _, c := range []struct {
		p api.Place
		o api.Operand
		e api.Errno
	}{
		{in(integer), truth(1), api.ErrType}, {in(integer), nothing(), api.ErrType}, {in(boolean), number(1), api.ErrType}, {in(boolean), nothing(), api.ErrType},
		{in(unit), number(0), api.ErrType}, {in(unit), truth(0), api.ErrType}, {in(refA), number(0), api.ErrType}, {in(pair), nothing(), api.ErrType}, {in(mutA), truth(0), api.ErrType},
		{in(integer), copyOf(boolean), api.ErrType}, {in(pair), copyOf(pairB), api.ErrType}, {in(pair), copyOf(pair), api.OK}, {in(pair), copyOf(integer), api.ErrType},
		{in(refA), copyOf(refB), api.ErrType}, {in(refC), copyOf(refA), api.OK}, {in(refD), copyOf(refA), api.ErrType}, {in(refA), copyOf(refD), api.ErrType},
		{in(refB), move(mutB), api.ErrType}, {in(mutB), copyOf(refB), api.ErrType}, {in(mutA), move(mutB), api.ErrType},
		{in(refs), move(refsB), api.ErrType}, {in(refRefA), copyOf(refRefB), api.ErrType},
		{in(mutRefB), move(mutRefA), api.ErrType}, {in(mutRefA), move(mutRefB), api.ErrType}, {in(mutRefB), move(mutRefB), api.OK},
		{in(refsB, 0), copyOf(mutRefs, star, 0), api.OK}, {in(mutRefs, star, 0), copyOf(refsB, 0), api.ErrType},
		{in(refC), copyOf(refRefs, star, star, 0), api.OK},
	} {
		checkStmt(t, b, assign(c.p, use(c.o)), c.e)
	}
}

// P10.1: what may be borrowed, and into which places.
func TestBorrows(t *testing.T) {
	b := sample()
	for _, c := range []struct {
		p api.Place
		v api.Rvalue
		e api.Errno
	}{
		{in(refA), borrow(regA, false, in(-1)), api.ErrRange},
		{in(unit), borrow(9, true, in(pair, 2)), api.ErrRange},
		{in(unit), borrow(9, true, in(pair, star)), api.ErrType},
		{in(unit), borrow(-1, true, api.Place{Proj: []api.Proj{{Kind: 2}}}), api.ErrKind},
		{in(unit), borrow(9, true, api.Place{Proj: make([]api.Proj, 33)}), api.ErrDepth},
		{in(refA), borrow(-1, false, in(integer)), api.ErrRange},
		{in(unit), borrow(4, false, in(refA, star)), api.ErrRange},
		{in(refA), borrow(math.MinInt, true, in(refA, star)), api.ErrRange},
		{in(refB), borrow(regA, false, in(integer)), api.ErrType},
		{in(refA), borrow(regB, false, in(integer)), api.ErrType},
		{in(mutA), borrow(regA, false, in(integer)), api.ErrType},
		{in(refA), borrow(regA, true, in(integer)), api.ErrType},
		{in(refA), borrow(regA, false, in(boolean)), api.ErrType},
		{in(refA), borrow(regA, false, in(refA)), api.ErrType},
		{in(refRefA), borrow(regA, false, in(refA)), api.OK},
		{in(refRefA), borrow(regA, false, in(refB)), api.ErrType},
		{in(refRefB), borrow(regB, false, in(refA)), api.ErrType},
		{in(integer), borrow(regA, false, in(integer)), api.ErrType},
		{in(pair), borrow(regA, false, in(integer)), api.ErrType},
		{in(unit), borrow(regA, false, in(unit)), api.ErrType},
		{in(mutA), borrow(regA, true, in(refA, star)), api.ErrType},
		{in(mutA), borrow(regA, true, in(refMutA, star, star)), api.ErrType},
		{in(refA), borrow(regA, false, in(refMutA, star, star)), api.OK},
		{in(mutA), borrow(regA, true, in(mutA, star)), api.OK},
		{in(mutA), borrow(regA, true, in(mutB, star)), api.ErrType},
		{in(mutB), borrow(regB, true, in(mutA, star)), api.OK},
		{in(refA), borrow(regA, false, in(refB, star)), api.ErrType},
		{in(refC), borrow(regC, false, in(refA, star)), api.OK},
		{in(refD), borrow(regD, false, in(refA, star)), api.ErrType},
		{in(refA), borrow(regA, false, in(refD, star)), api.ErrType},
		{in(refB), borrow(regB, false, in(refRefA, star, star)), api.OK},
		{in(refB), borrow(regB, false, in(refRefs, star, star, 0, star)), api.ErrType},
		{in(refA), borrow(regA, false, in(mutRefB, star, star)), api.ErrType},
		{in(mutMutA), borrow(regC, true, in(mutRefs, star, 1)), api.OK},
		{in(mutMutA), borrow(regC, true, in(refRefs, star, star, 1)), api.ErrType},
	} {
		checkStmt(t, b, assign(c.p, c.v), c.e)
	}
}

// P10.1: each operator with operands and places of each kind.
func TestOperators(t *testing.T) {
	b := sample()
	inputs := map[int][]api.Operand{
		api.Int: {number(7), copyOf(integer), move(pair, 0)}, api.Bool: {truth(0), copyOf(pair, 1)},
		api.Unit: {nothing(), copyOf(unit)}, api.Ref: {copyOf(refA)}, api.Tuple: {move(pair)},
	}
	outputs := map[int]api.Place{api.Unit: in(unit), api.Bool: in(boolean), api.Int: in(integer), api.Ref: in(refA), api.Tuple: in(pair)}
	tables := map[int][][2]int{
		api.Unary:  {{api.Int, api.Int}, {api.Bool, api.Bool}},
		api.Binary: {{api.Int, api.Int}, {api.Int, api.Int}, {api.Int, api.Int}, {api.Int, api.Bool}, {api.Int, api.Bool}, {api.Bool, api.Bool}},
	}
	for kind, table := range tables {
		for op, row := range table {
			for to, p := range outputs {
				for from, l := range inputs {
					for _, o := range l {
						e := api.ErrType
						if row == [2]int{from, to} {
							e = api.OK
						}
						other := inputs[row[0]][0]
						if kind == api.Unary {
							checkStmt(t, b, assign(p, unary(op, o)), e)
							continue
						}
						checkStmt(t, b, assign(p, binary(op, o, other)), e)
						checkStmt(t, b, assign(p, binary(op, other, o)), e)
						checkStmt(t, b, assign(p, binary(op, o, o)), e)
					}
				}
			}
		}
	}
}

// P10.1: operators that are unknown, and the order of the errors of operands.
func TestOperatorErrors(t *testing.T) {
	b := sample()
	kindless, wrong, far := api.Operand{Kind: 5}, api.Operand{N: 1}, copyOf(-1)
	for _, op := range []int{-1, 2, 5, 6, math.MinInt, math.MaxInt, 1 << 32} {
		checkStmt(t, b, assign(in(integer), unary(op, far)), api.ErrKind)
		checkStmt(t, b, assign(in(integer), unary(op, number(1))), api.ErrKind)
		if op < 0 || op > 5 {
			checkStmt(t, b, assign(in(boolean), binary(op, truth(1), truth(1))), api.ErrKind)
			checkStmt(t, b, assign(in(refA), binary(op, far, wrong)), api.ErrKind)
		}
	}
	for op := range 6 {
		checkStmt(t, b, assign(in(refA), binary(op, kindless, wrong)), api.ErrKind)
		checkStmt(t, b, assign(in(refA), binary(op, wrong, far)), api.ErrArg)
		checkStmt(t, b, assign(in(refA), binary(op, far, kindless)), api.ErrRange)
		checkStmt(t, b, assign(in(refA), binary(op, nothing(), far)), api.ErrRange)
		checkStmt(t, b, assign(in(refA), binary(op, nothing(), wrong)), api.ErrArg)
		checkStmt(t, b, assign(in(refA), unary(op%2, far)), api.ErrRange)
		checkStmt(t, b, assign(in(refA), unary(op%2, kindless)), api.ErrKind)
	}
}

// P10.1: a tuple is made of as many operands as it has components, which are checked in order.
func TestTuples(t *testing.T) {
	b := sample()
	wrong, far := api.Operand{N: 1}, copyOf(-1)
	for _, c := range []struct {
		p api.Place
		l []api.Operand
		e api.Errno
	}{
		{in(pair), []api.Operand{number(1), truth(1)}, api.OK},
		{in(pair), nil, api.ErrType},
		{in(pair), []api.Operand{far}, api.ErrType},
		{in(pair), []api.Operand{far, wrong, far}, api.ErrType},
		{in(pair), []api.Operand{far, wrong}, api.ErrRange},
		{in(pair), []api.Operand{wrong, far}, api.ErrArg},
		{in(pair), []api.Operand{truth(1), far}, api.ErrType},
		{in(pair), []api.Operand{number(1), far}, api.ErrRange},
		{in(pair), []api.Operand{number(1), number(1)}, api.ErrType},
		{in(pairB), []api.Operand{number(1), truth(1)}, api.ErrType},
		{in(integer), nil, api.ErrType},
		{in(integer), []api.Operand{far}, api.ErrType},
		{in(unit), nil, api.ErrType},
		{in(refPair), []api.Operand{number(1), truth(1)}, api.ErrType},
		{in(mutPair, star), []api.Operand{number(1), truth(1)}, api.OK},
		{in(refs), []api.Operand{copyOf(refB), move(mutA)}, api.ErrType},
		{in(refs), []api.Operand{copyOf(refA), move(mutB)}, api.ErrType},
		{in(refs), []api.Operand{copyOf(refA), copyOf(mutA)}, api.ErrType},
		{in(refsB), []api.Operand{copyOf(refA), move(mutA)}, api.OK},
		{in(refsB), []api.Operand{copyOf(refD), move(refA, star)}, api.ErrType},
		{in(triple), []api.Operand{copyOf(refA), copyOf(pairB), far}, api.ErrType},
		{in(triple), []api.Operand{copyOf(refA), copyOf(pair), copyOf(unit)}, api.OK},
	} {
		checkStmt(t, b, assign(c.p, makeTuple(c.l...)), c.e)
	}
}

// P10.1: each error of a terminator, and their order.
func TestTerms(t *testing.T) {
	b := sample()
	wrong, far := api.Operand{N: 1}, copyOf(-1)
	args := []api.Operand{far}
	for _, c := range []struct {
		x api.Term
		e api.Errno
	}{
		{api.Term{Kind: 6}, api.ErrKind},
		{api.Term{Kind: -1, Targets: []int{9}, Args: args, Place: in(-1), Name: "9"}, api.ErrKind},
		{api.Term{Kind: 1<<32 + api.Return}, api.ErrKind},
		{api.Term{Kind: api.Goto}, api.ErrArg},
		{api.Term{Kind: api.Goto, Targets: []int{9, 9}}, api.ErrArg},
		{api.Term{Kind: api.Goto, Targets: []int{9}, Args: args}, api.ErrArg},
		{api.Term{Kind: api.Goto, Targets: []int{9}, Place: in(-1)}, api.ErrArg},
		{api.Term{Kind: api.Goto, Targets: []int{9}, Name: "9"}, api.ErrArg},
		{goTo(3), api.ErrRange}, {goTo(-1), api.ErrRange}, {goTo(math.MaxInt), api.ErrRange}, {goTo(1 << 32), api.ErrRange},
		{api.Term{Kind: api.If, Targets: []int{9}, Args: args}, api.ErrArg},
		{api.Term{Kind: api.If, Targets: []int{9, 9, 9}, Args: args}, api.ErrArg},
		{api.Term{Kind: api.If, Targets: []int{9, 9}}, api.ErrArg},
		{api.Term{Kind: api.If, Targets: []int{9, 9}, Args: []api.Operand{far, far}}, api.ErrArg},
		{api.Term{Kind: api.If, Targets: []int{9, 9}, Args: args, Name: "g"}, api.ErrArg},
		{api.Term{Kind: api.If, Targets: []int{9, 9}, Args: args, Place: api.Place{Proj: make([]api.Proj, 1)}}, api.ErrArg},
		{branch(wrong, 3, 0), api.ErrRange}, {branch(wrong, 0, 3), api.ErrRange}, {branch(wrong, 0, -1), api.ErrRange},
		{branch(wrong, 0, 2), api.ErrArg}, {branch(far, 0, 2), api.ErrRange}, {branch(move(pair, star), 0, 2), api.ErrType},
		{branch(number(1), 0, 2), api.ErrType}, {branch(nothing(), 0, 2), api.ErrType}, {branch(copyOf(refPair), 0, 2), api.ErrType}, {branch(copyOf(refPair, star, 1), 0, 2), api.OK},
		{api.Term{Kind: api.Return, Targets: []int{0}}, api.ErrArg},
		{api.Term{Kind: api.Return, Args: []api.Operand{number(0)}}, api.ErrArg},
		{api.Term{Kind: api.Return, Place: api.Place{Local: 1}}, api.ErrArg},
		{api.Term{Kind: api.Return, Name: "g"}, api.ErrArg},
		{api.Term{Kind: api.Unreachable, Targets: []int{0}}, api.ErrArg},
		{api.Term{Kind: api.Unreachable, Args: []api.Operand{number(0)}}, api.ErrArg},
		{api.Term{Kind: api.Unreachable, Place: api.Place{Local: 1}}, api.ErrArg},
		{api.Term{Kind: api.Unreachable, Name: "g"}, api.ErrArg},
		{api.Term{Kind: api.Call, Name: "9", Args: args}, api.ErrArg},
		{api.Term{Kind: api.Call, Name: "g", Targets: []int{0, 0}}, api.ErrArg},
		{call("9", in(-1), 3, far), api.ErrRange},
		{call("", in(-1), 0, far), api.ErrString}, {call("9", in(-1), 0, far), api.ErrString}, {call("g h", in(integer), 0), api.ErrString},
		{call(strings.Repeat("g", 256), in(integer), 0), api.ErrString}, {call(strings.Repeat("g", 255), in(integer), 0), api.OK},
		{call("g", in(-1), 0, number(1), wrong, far), api.ErrArg},
		{call("g", in(-1), 0, number(1), far, wrong), api.ErrRange},
		{call("g", in(-1), 0, copyOf(mutA)), api.ErrType},
		{call("g", in(pair, 5), 0, move(mutA)), api.ErrRange},
		{call("g", in(pair, star), 0), api.ErrType},
		{call("g", in(refA, star), 0), api.ErrType},
		{call("g", in(mutA, star), 0), api.OK},
		{api.Term{Kind: api.Drop}, api.ErrArg},
		{api.Term{Kind: api.Drop, Targets: []int{3, 3}, Place: in(-1)}, api.ErrArg},
		{api.Term{Kind: api.Drop, Targets: []int{3}, Place: in(-1), Args: args}, api.ErrArg},
		{api.Term{Kind: api.Drop, Targets: []int{3}, Place: in(-1), Name: "g"}, api.ErrArg},
		{drop(in(-1), 3), api.ErrRange}, {drop(in(pair, star), 3), api.ErrRange}, {drop(in(-1), 0), api.ErrRange}, {drop(in(pair, 2), 0), api.ErrRange},
		{drop(in(pair, star), 0), api.ErrType}, {drop(in(mutA, star), 0), api.ErrType}, {drop(in(mutRefs, star, 1), 0), api.ErrType}, {drop(in(refs, 1), 0), api.OK},
		{drop(api.Place{Proj: []api.Proj{{Kind: 2}}}, 0), api.ErrKind},
	} {
		checkTerm(t, b, c.x, c.e)
	}
}

// P10.1: the greatest number of arguments of a Call.
func TestManyArgs(t *testing.T) {
	b := sample()
	args := slices.Repeat([]api.Operand{number(1)}, 65536)
	checkTerm(t, b, call("g", in(integer), 0, args[:65535]...), api.OK)
	checkTerm(t, b, call("g", in(integer), 0, args...), api.ErrLimit)
	checkTerm(t, b, call("9", in(integer), 0, args...), api.ErrString)
	args[0], args[65534] = copyOf(-1), api.Operand{Kind: 9}
	checkTerm(t, b, call("g", in(-1), 0, args...), api.ErrLimit)
	checkTerm(t, b, call("g", in(-1), 0, args[1:]...), api.ErrKind)
	checkTerm(t, b, call("g", in(-1), 5, args...), api.ErrRange)
}

// names returns n distinct identifiers.
func names(n int) []string {
	var l []string
	for i := range n {
		l = append(l, fmt.Sprint("n", i))
	}
	return l
}

// defect is a change by which a body is no longer valid.
type defect struct {
	name   string
	change func(*api.Body)
	e      api.Errno
}

// defects returns defects of bodies in the order in which they are checked.
func defects() []defect {
	return []defect{
		{"name", func(b *api.Body) { b.Name = "f!" }, api.ErrString},
		{"too many regions", func(b *api.Body) { b.Regions = append(b.Regions, names(65532)...) }, api.ErrLimit},
		{"region's name", func(b *api.Body) { b.Regions = slices.Replace(b.Regions, 1, 2, "") }, api.ErrString},
		{"region's duplicate", func(b *api.Body) { b.Regions = append(b.Regions, b.Regions[0], "9") }, api.ErrDuplicate},
		{"too many pairs", func(b *api.Body) { b.Outlives = make([][2]int, 65536) }, api.ErrLimit},
		{"pair's range", func(b *api.Body) { b.Outlives = [][2]int{{0, len(b.Regions)}, {1, 1}} }, api.ErrRange},
		{"equal regions", func(b *api.Body) { b.Outlives = [][2]int{{0, 1}, {2, 2}} }, api.ErrArg},
		{"pairs' order", func(b *api.Body) { b.Outlives = [][2]int{{1, 2}, {0, 1}} }, api.ErrDuplicate},
		{"too many types", func(b *api.Body) { b.Types = make([]api.Type, 65536) }, api.ErrLimit},
		{"type's kind", func(b *api.Body) { b.Types[triple].Kind = 5 }, api.ErrKind},
		{"type's fields", func(b *api.Body) { b.Types[triple].Elem = 1 }, api.ErrArg},
		{"type's region", func(b *api.Body) { b.Types[mutRefs].Region = len(b.Regions) }, api.ErrRange},
		{"type's duplicate", func(b *api.Body) { b.Types[pairB] = b.Types[pair] }, api.ErrDuplicate},
		{"too many locals", func(b *api.Body) { b.Locals = make([]api.Local, 65536) }, api.ErrLimit},
		{"local's name", func(b *api.Body) { b.Locals[5] = api.Local{Name: "a-b", Type: -1} }, api.ErrString},
		{"local's duplicate", func(b *api.Body) { b.Locals[6] = api.Local{Name: "x0", Type: -1} }, api.ErrDuplicate},
		{"local's type", func(b *api.Body) { b.Locals[7].Type, b.Locals[8].Name = len(b.Types), "" }, api.ErrRange},
		{"arguments", func(b *api.Body) { b.Args = len(b.Locals) + 1 }, api.ErrRange},
		{"no arguments", func(b *api.Body) { b.Args = -1 }, api.ErrRange},
		{"no blocks", func(b *api.Body) { b.Blocks = nil }, api.ErrLimit},
		{"too many blocks", func(b *api.Body) { b.Blocks = make([]api.Block, 65536) }, api.ErrLimit},
		{"too many statements", func(b *api.Body) {
			b.Blocks[0].Stmts = slices.Repeat([]api.Stmt{{Kind: 3}}, 65536)
			b.Blocks[0].Term.Kind = 9
		}, api.ErrLimit},
		{"statement", func(b *api.Body) {
			b.Blocks[0].Stmts = append([]api.Stmt{{Kind: api.Dead, Local: -1}, {Kind: 3}}, b.Blocks[0].Stmts...)
		}, api.ErrRange},
		{"later statement", func(b *api.Body) { b.Blocks[0].Stmts = append(b.Blocks[0].Stmts, api.Stmt{Kind: api.Nop, Local: 1}) }, api.ErrArg},
		{"terminator", func(b *api.Body) { b.Blocks[0].Term = goTo(-1) }, api.ErrRange},
		{"later block", func(b *api.Body) { b.Blocks[1].Stmts = slices.Repeat([]api.Stmt{{}}, 65536) }, api.ErrLimit},
		{"later terminator", func(b *api.Body) { b.Blocks[1].Term = api.Term{Kind: 6} }, api.ErrKind},
		{"last block", func(b *api.Body) { b.Blocks[2].Stmts[1].Rvalue.Mut = true }, api.ErrType},
		{"last terminator", func(b *api.Body) { b.Blocks[2].Term.Name = "g" }, api.ErrArg},
	}
}

// P10.2: each error of a body; of two errors, the one that is checked first is the result.
func TestOrderOfErrors(t *testing.T) {
	l := defects()
	for i, first := range l {
		// The changes of the later defects are made before, so that they cannot undo the first one.
		for _, later := range l[i:] {
			b := sample()
			later.change(&b)
			first.change(&b)
			if got := valid.Check(b); got != first.e {
				t.Errorf("%s and %s: got %v, want %v", first.name, later.name, got, first.e)
			}
		}
	}
}

// P10.2: lists with as many elements as the limits permit.
func TestGreatestCounts(t *testing.T) {
	const most = 65535
	b := small()
	b.Regions = names(most)
	for i := range most - 2 {
		b.Types = append(b.Types, ref(i, 0))
		b.Outlives = append(b.Outlives, [2]int{i, i + 1})
	}
	for i, name := range names(most - 2) {
		b.Locals = append(b.Locals, api.Local{Name: name, Type: 2 + i})
	}
	b.Args = most
	b.Blocks = slices.Repeat(b.Blocks, most)
	b.Blocks[most-1] = api.Block{Stmts: slices.Repeat([]api.Stmt{{Kind: api.Dead, Local: most - 1}}, most), Term: goTo(most - 1)}
	checkResult(t, "the greatest body", valid.Check(b), api.OK)
	for _, c := range []struct {
		name   string
		change func(*api.Body)
		e      api.Errno
	}{
		{"last region", func(b *api.Body) { b.Regions[most-1] = "n7" }, api.ErrDuplicate},
		{"last local", func(b *api.Body) { b.Locals[most-1].Type = most }, api.ErrRange},
		{"last statement", func(b *api.Body) { b.Blocks[most-1].Stmts[most-1].Local = most }, api.ErrRange},
		{"last terminator", func(b *api.Body) { b.Blocks[most-1].Term.Targets[0] = most }, api.ErrRange},
		{"one region too many", func(b *api.Body) { b.Regions = append(b.Regions, "one_more") }, api.ErrLimit},
		{"one local too many", func(b *api.Body) { b.Locals = append(b.Locals, api.Local{Name: "one_more"}) }, api.ErrLimit},
		{"one block too many", func(b *api.Body) { b.Blocks = append(b.Blocks, b.Blocks[0]) }, api.ErrLimit},
		{"one statement too many", func(b *api.Body) {
			b.Blocks[most-1].Stmts = append(b.Blocks[most-1].Stmts, api.Stmt{Kind: api.Nop})
		}, api.ErrLimit},
	} {
		changed := clone(b)
		c.change(&changed)
		checkResult(t, c.name, valid.Check(changed), c.e)
	}
}

// P10.2: identifiers of the greatest length, and the same identifier for a body, a region and a local.
func TestNames(t *testing.T) {
	long := strings.Repeat("n", 255)
	b := sample()
	b.Name, b.Regions[0], b.Locals[0].Name = long, long, long
	checkBody(t, b, api.OK)
	for i, change := range []func(*api.Body, string){
		func(b *api.Body, s string) { b.Name = s },
		func(b *api.Body, s string) { b.Regions[3] = s },
		func(b *api.Body, s string) { b.Locals[typesNum-1].Name = s },
		func(b *api.Body, s string) { b.Blocks[1].Term.Name = s },
	} {
		for _, s := range []string{"", "1a", "a-b", "a ", "é", "a\x00", "a\xff", long + "n", "%x"} {
			b := sample()
			change(&b, s)
			checkBody(t, b, api.ErrString)
		}
		for _, s := range []string{"_", "Z9", "a_1", long} {
			b := sample()
			change(&b, s)
			checkBody(t, b, api.OK)
		}
		// A region and a local may have the name of anything but another region or local.
		for _, s := range []string{"a", "x0"} {
			b := sample()
			change(&b, s)
			checkBody(t, b, api.ErrDuplicate*api.Errno(one(i == 1 && s == "a" || i == 2 && s == "x0")))
		}
	}
}

// P10.1: each change of a part that is valid, compared with the model.
func TestChangedParts(t *testing.T) {
	b := sample()
	operands, stmts, terms := tally{}, tally{}, tally{}
	for _, o := range goodOperands() {
		eachChange(o, func(o api.Operand) {
			e := outcome(func() { model{b}.operand(o) })
			operands[e]++
			checkResult(t, o, valid.Operand(b, o), e)
		})
	}
	for _, s := range goodStmts() {
		eachChange(s, func(s api.Stmt) {
			e := outcome(func() { model{b}.stmt(s) })
			stmts[e]++
			checkResult(t, s, valid.Stmt(b, s), e)
		})
	}
	for _, x := range goodTerms() {
		eachChange(x, func(x api.Term) {
			e := outcome(func() { model{b}.term(x) })
			terms[e]++
			checkResult(t, x, valid.Term(b, x), e)
		})
	}
	operands.need(t, 20, api.OK, api.ErrKind, api.ErrArg, api.ErrRange, api.ErrType)
	stmts.need(t, 100, api.OK, api.ErrKind, api.ErrArg, api.ErrRange, api.ErrType)
	terms.need(t, 10, api.OK, api.ErrKind, api.ErrArg, api.ErrRange, api.ErrType, api.ErrString)
}

// P10.2 and P10.3: each change of a valid body, compared with the model.
func TestChangedBody(t *testing.T) {
	all := tally{}
	eachChange(sample(), func(b api.Body) {
		e := outcome(model{b}.body)
		all[e]++
		checkResult(t, b, valid.Check(b), e)
		checkConsequences(t, b)
	})
	all.need(t, 10, api.OK, api.ErrKind, api.ErrArg, api.ErrRange, api.ErrType, api.ErrString, api.ErrDuplicate, api.ErrLimit)
}

// arbitraryBody returns a body with valid declarations and blocks of valid parts, some of which are changed.
func arbitraryBody(pick func(int) int) api.Body {
	b := sample()
	for range pick(4) {
		x := api.Block{Term: goodTerms()[pick(len(goodTerms()))]}
		for range pick(6) {
			x.Stmts = append(x.Stmts, goodStmts()[pick(len(goodStmts()))])
		}
		b.Blocks = append(b.Blocks, x)
	}
	b.Blocks = changed(b.Blocks, pick(4), pick)
	if pick(4) == 0 {
		b = changed(b, 1+pick(2), pick)
	}
	return b
}

// P10.2 and P10.3: arbitrary bodies, compared with the model.
func TestAgainstModel(t *testing.T) {
	r := rand.New(rand.NewSource(1))
	all := tally{}
	for range 4000 {
		b := arbitraryBody(r.Intn)
		e := outcome(model{b}.body)
		all[e]++
		checkResult(t, b, valid.Check(b), e)
		checkConsequences(t, b)
	}
	all.need(t, 20, api.OK, api.ErrKind, api.ErrArg, api.ErrRange, api.ErrType, api.ErrString)
}

// related returns a valid body with arbitrary pairs of regions and a local of each of its types, which have many subtypes.
func related(t *testing.T, r *rand.Rand) api.Body {
	t.Helper()
	b := api.Body{Name: "f", Regions: names(4), Types: []api.Type{{Kind: api.Int}}, Blocks: []api.Block{{Term: api.Term{Kind: api.Return}}}}
	for i := range 4 {
		for j := range 4 {
			if i != j && r.Intn(4) == 0 {
				b.Outlives = append(b.Outlives, [2]int{i, j})
			}
		}
	}
	for range 24 {
		n := len(b.Types)
		x := tuple(r.Intn(n), r.Intn(n))
		if r.Intn(3) > 0 {
			x = api.Type{Kind: api.Ref, Region: r.Intn(4), Mut: r.Intn(3) == 0, Elem: r.Intn(min(n, 6))}
		}
		_, found := types.Find(b.Types, x)
		if !found {
			b.Types = append(b.Types, x)
		}
	}
	for i, name := range names(len(b.Types)) {
		b.Locals = append(b.Locals, api.Local{Name: name, Type: i})
	}
	checkBody(t, b, api.OK)
	return b
}

// P10.1 to P10.3: moves of all types to all others, and borrows through all references in all regions, alone and one after another.
func TestRelatedTypes(t *testing.T) {
	r := rand.New(rand.NewSource(2))
	all := tally{}
	for range 40 {
		b := related(t, r)
		var l []api.Stmt
		for i := range b.Locals {
			for j := range b.Locals {
				l = append(l, assign(api.Place{Local: i}, use(api.Operand{Kind: api.Move, Place: api.Place{Local: j}})))
				if b.Types[i].Kind == api.Ref {
					through := api.Place{Local: j, Proj: []api.Proj{{Kind: api.Deref}}}
					l = append(l, assign(api.Place{Local: i}, borrow(b.Types[i].Region, b.Types[i].Mut, through)))
				}
			}
		}
		r.Shuffle(len(l), func(i, j int) { l[i], l[j] = l[j], l[i] })
		var good []api.Stmt
		for _, s := range l {
			e := outcome(func() { model{b}.stmt(s) })
			all[e]++
			checkResult(t, s, valid.Stmt(b, s), e)
			if e == api.OK {
				good = append(good, s)
				continue
			}
			if r.Intn(20) == 0 {
				b.Blocks[0].Stmts = append(slices.Clone(good), s)
				checkResult(t, s, valid.Check(b), e)
			}
		}
		b.Blocks[0].Stmts = good
		checkBody(t, b, api.OK)
		checkConsequences(t, b)
	}
	all.need(t, 1500, api.OK, api.ErrType)
}

// P1 of the document: many statements with great types and long ways between regions do not take long.
func TestGreatBodies(t *testing.T) {
	const n = 65535
	b := api.Body{Name: "f", Regions: names(4000), Types: []api.Type{{Kind: api.Int}, ref(0, 0), ref(3999, 0)}}
	for i := range len(b.Regions) - 1 {
		b.Outlives = append(b.Outlives, [2]int{i, i + 1})
	}
	b.Types = append(b.Types, tuple(slices.Repeat([]int{1}, n)...), tuple(slices.Repeat([]int{2}, n)...))
	for i, name := range names(len(b.Types)) {
		b.Locals = append(b.Locals, api.Local{Name: name, Type: i})
	}
	whole := assign(api.Place{Local: 4}, use(api.Operand{Kind: api.Copy, Place: api.Place{Local: 3}}))
	reborrow := assign(api.Place{Local: 2}, borrow(3999, false, api.Place{Local: 1, Proj: []api.Proj{{Kind: api.Deref}}}))
	back := assign(api.Place{Local: 3}, use(api.Operand{Kind: api.Copy, Place: api.Place{Local: 4}}))
	b.Blocks = slices.Repeat([]api.Block{{Stmts: slices.Repeat([]api.Stmt{whole, reborrow}, n/2), Term: api.Term{Kind: api.Return}}}, 2)
	checkResult(t, "a great body", valid.Check(b), api.OK)
	b.Blocks[1].Stmts = append(slices.Clone(b.Blocks[1].Stmts), back)
	checkResult(t, "a great body", valid.Check(b), api.ErrType)
	many := assign(api.Place{Local: 3}, makeTuple(slices.Repeat([]api.Operand{{Kind: api.Copy, Place: api.Place{Local: 1}}}, n)...))
	checkResult(t, "a great tuple", valid.Stmt(b, many), api.OK)
	many.Rvalue.Args[n-1].Place.Local = 2
	checkResult(t, "a great tuple", valid.Stmt(b, many), api.ErrType)
	many.Rvalue.Args = append(many.Rvalue.Args, many.Rvalue.Args[0])
	checkResult(t, "a great tuple", valid.Stmt(b, many), api.ErrType)
}

// checkReturns checks that all calls return, with the same results if they are called again.
func checkReturns(t *testing.T, b api.Body) {
	t.Helper()
	for _, o := range goodOperands() {
		checkResult(t, o, valid.Operand(b, o), valid.Operand(b, o))
	}
	for _, s := range goodStmts() {
		checkResult(t, s, valid.Stmt(b, s), valid.Stmt(b, s))
	}
	for _, x := range goodTerms() {
		checkResult(t, x, valid.Term(b, x), valid.Term(b, x))
	}
	checkResult(t, b, valid.Check(b), valid.Check(b))
}

// P1 of the document: in bodies whose declaration part is not valid, the results for parts are not specified, but the calls return.
func TestNotValid(t *testing.T) {
	checkReturns(t, api.Body{})
	for _, d := range defects() {
		b := sample()
		d.change(&b)
		checkReturns(t, b)
	}
	for _, i := range []int{-1, typesNum, math.MinInt, math.MaxInt} {
		b := sample()
		for j := range b.Locals {
			b.Locals[j].Type = i
		}
		checkReturns(t, b)
	}
	b := sample()
	for i := range b.Types {
		b.Types[i].Elem = i
		for j := range b.Types[i].Fields {
			b.Types[i].Fields[j] = typesNum - 1 - i
		}
	}
	checkReturns(t, b)
	r := rand.New(rand.NewSource(3))
	for range 400 {
		checkReturns(t, changed(sample(), 8, r.Intn))
	}
}

// Rule 4 of the document: arguments are not modified, and nothing behind the length of a slice is read.
func TestKeepsArguments(t *testing.T) {
	memory := sample()
	memory.Blocks[2].Stmts = append(memory.Blocks[2].Stmts, goodStmts()...)
	memory.Blocks = append(memory.Blocks, api.Block{Term: goTo(3)})
	before := clone(memory)
	b := memory
	b.Blocks = b.Blocks[:3]
	checkBody(t, b, api.OK)
	checkTerm(t, b, b.Blocks[0].Term, api.OK)
	checkTerm(t, b, memory.Blocks[3].Term, api.ErrRange)
	b.Locals = b.Locals[:4]
	checkStmt(t, b, api.Stmt{Kind: api.Dead, Local: 4}, api.ErrRange)
	checkOperand(t, b, api.Operand{Kind: api.Move, Place: api.Place{Local: 4}}, api.ErrRange)
	b.Args = 5
	checkBody(t, b, api.ErrRange)
	b = memory
	b.Regions = b.Regions[:3]
	checkStmt(t, b, assign(in(refD), borrow(regD, false, in(integer))), api.ErrRange)
	if !reflect.DeepEqual(memory, before) {
		t.Error("the body was modified")
	}
}

// Rules 6 and 7 of the document: a result does not depend on earlier calls.
func TestCallsAreSeparate(t *testing.T) {
	b := sample()
	toC, toPlace := assign(in(refC), use(copyOf(refA))), assign(in(refMutA), use(copyOf(refMutA)))
	b.Blocks[0].Stmts = []api.Stmt{toC, toPlace}
	checkBody(t, b, api.OK)
	b.Outlives = b.Outlives[:1]
	checkStmt(t, b, toC, api.ErrType)
	checkBody(t, b, api.ErrType)
	b.Outlives = b.Outlives[:2]
	checkBody(t, b, api.OK)
	b.Types[refMutA].Mut = true
	checkStmt(t, b, toPlace, api.ErrType)
	checkBody(t, b, api.ErrType)
}

// Rule 6 of the document: the functions may be called concurrently, with the same body as well.
func TestConcurrentCalls(t *testing.T) {
	r := rand.New(rand.NewSource(4))
	l := []api.Body{sample()}
	for range 40 {
		l = append(l, arbitraryBody(r.Intn))
	}
	var group sync.WaitGroup
	for range 8 {
		group.Go(func() {
			for _, b := range l {
				checkBody(t, b, outcome(model{b}.body))
				checkConsequences(t, b)
			}
		})
	}
	group.Wait()
}

// FuzzCheck compares bodies that are made of bytes with the model.
func FuzzCheck(f *testing.F) {
	f.Add([]byte{})
	f.Add([]byte{2, 3, 1, 2, 3, 4, 5, 6})
	f.Add([]byte{1, 0, 5, 9, 10, 11, 12, 13, 1, 0, 77, 3, 0, 1, 2, 3, 4, 5, 6})
	f.Fuzz(func(t *testing.T, choices []byte) {
		b := arbitraryBody(build.Picker(choices))
		checkBody(t, b, outcome(model{b}.body))
		checkConsequences(t, b)
		checkReturns(t, b)
	})
}
