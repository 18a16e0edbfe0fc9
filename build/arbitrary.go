package build

import (
	"math"
	"strconv"

	"mirtower/api"
	"mirtower/places"
	"mirtower/types"
	"mirtower/valid"
)

// maker makes a valid body by choices, each from 0 to n-1.
type maker struct {
	pick func(n int) int
	body api.Body
	// typed has, for each type, some places of it.
	typed [][]api.Place
}

// chosen returns one of some values.
func chosen[T any](pick func(int) int, l ...T) T { return l[pick(len(l))] }

// name returns an identifier that is different for each number.
func (m *maker) name(i int) string {
	return chosen(m.pick, "a", "x", "_", "B9_", "very_long_name_that_nobody_reads_") + strconv.Itoa(i)
}

// declareRegions adds regions, and pairs of them.
func (m *maker) declareRegions() {
	n := chosen(m.pick, 2, 1, 3, 0, 2, 1)
	for i := range n {
		m.body.Regions = append(m.body.Regions, m.name(i))
	}
	for i := range n {
		for j := range n {
			if i != j && m.pick(4) == 0 {
				m.body.Outlives = append(m.body.Outlives, [2]int{i, j})
			}
		}
	}
}

// newType returns a type of elements among the declared ones, which may be there already, and whose region may not exist.
func (m *maker) newType() api.Type {
	n := len(m.body.Types)
	kind := chosen(m.pick, api.Int, api.Ref, api.Ref, api.Tuple, api.Bool, api.Unit)
	switch {
	case n == 0 && (kind == api.Ref || kind == api.Tuple):
		return api.Type{Kind: api.Int}
	case kind == api.Ref:
		return Ref(m.pick(2) == 1, m.pick(len(m.body.Regions)+1), m.pick(n))
	case kind == api.Tuple:
		t := Tuple()
		for range 1 + m.pick(3) {
			t.Fields = append(t.Fields, m.pick(n))
		}
		return t
	}
	return api.Type{Kind: kind}
}

// declareTypes adds types.
func (m *maker) declareTypes() {
	for range chosen(m.pick, 12, 15, 18, 12, 20, 6, 0) {
		l := append(m.body.Types[:len(m.body.Types):len(m.body.Types)], m.newType())
		if types.Check(l, len(m.body.Regions)) == api.OK {
			m.body.Types = l
		}
	}
}

// declareLocals adds locals, some of which are parameters.
func (m *maker) declareLocals() {
	n := len(m.body.Types)
	if n == 0 {
		return
	}
	for i := range chosen(m.pick, 6, 9, 12, 15, 8, 3, 0) {
		m.body.Locals = append(m.body.Locals, api.Local{Name: m.name(i), Type: m.pick(n)})
	}
	m.body.Args = m.pick(len(m.body.Locals) + 1)
}

// findPlaces collects places with few projections.
func (m *maker) findPlaces() {
	const most = 3
	m.typed = make([][]api.Place, len(m.body.Types))
	var all []api.Place
	for i := range m.body.Locals {
		all = append(all, At(i))
	}
	for i := 0; i < len(all); i++ {
		p := all[i]
		t, _ := places.TypeOf(m.body.Types, m.body.Locals, p)
		m.typed[t] = append(m.typed[t], p)
		if len(p.Proj) == most {
			continue
		}
		if m.body.Types[t].Kind == api.Ref {
			all = append(all, extended(p, api.Proj{Kind: api.Deref}))
		}
		for f := range m.body.Types[t].Fields {
			all = append(all, extended(p, api.Proj{Kind: api.Field, Field: f}))
		}
	}
}

// extended returns a place with one more projection, in new memory.
func extended(p api.Place, x api.Proj) api.Place {
	p.Proj = append(p.Proj[:len(p.Proj):len(p.Proj)], x)
	return p
}

// place returns a place of a type in new memory, or that of the local 0 if there is none.
func (m *maker) place(t int) api.Place {
	l := m.typed[t]
	if len(l) == 0 {
		return api.Place{}
	}
	p := chosen(m.pick, l...)
	p.Proj = append([]api.Proj(nil), p.Proj...)
	return p
}

// constant returns a constant of a kind of types, or one that does not fit if there is none.
func (m *maker) constant(kind int) api.Operand {
	switch kind {
	case api.Int:
		return Number(chosen[int64](m.pick, 0, 1, -1, 64, 300, math.MinInt64, math.MaxInt64))
	case api.Bool:
		return Truth(int64(m.pick(2)))
	}
	return Nothing()
}

// operand returns an operand that probably fits a type.
func (m *maker) operand(t int) api.Operand {
	kind := m.body.Types[t].Kind
	isScalar := kind != api.Ref && kind != api.Tuple
	if isScalar && (len(m.typed[t]) == 0 || m.pick(3) == 0) {
		return m.constant(kind)
	}
	p := m.place(t)
	if m.pick(3) == 0 || !types.Copyable(m.body.Types, t) {
		return api.Operand{Kind: api.Move, Place: p}
	}
	return api.Operand{Kind: api.Copy, Place: p}
}

// ofKind returns an operand that probably fits a kind of types.
func (m *maker) ofKind(kind int) api.Operand {
	t, found := types.Find(m.body.Types, api.Type{Kind: kind})
	if !found {
		return m.constant(kind)
	}
	return m.operand(t)
}

// rvalue returns an rvalue that probably fits a type.
func (m *maker) rvalue(t int) api.Rvalue {
	x := m.body.Types[t]
	if m.pick(4) == 0 {
		return Use(m.operand(t))
	}
	switch x.Kind {
	case api.Bool:
		if m.pick(2) == 0 {
			return Unary(api.Not, m.ofKind(api.Bool))
		}
		op := chosen(m.pick, api.Eq, api.Lt, api.And)
		kind := api.Int
		if op == api.And {
			kind = api.Bool
		}
		return Binary(op, m.ofKind(kind), m.ofKind(kind))
	case api.Int:
		if m.pick(2) == 0 {
			return Unary(api.Neg, m.ofKind(api.Int))
		}
		return Binary(chosen(m.pick, api.Add, api.Sub, api.Mul), m.ofKind(api.Int), m.ofKind(api.Int))
	case api.Ref:
		return Borrow(x.Region, x.Mut, m.place(x.Elem))
	case api.Tuple:
		v := MakeTuple()
		for _, f := range x.Fields {
			v.Args = append(v.Args, m.operand(f))
		}
		return v
	}
	return Use(m.operand(t))
}

// target returns a place in new memory, and its type.
func (m *maker) target() (api.Place, int) {
	t := m.body.Locals[m.pick(len(m.body.Locals))].Type
	other := m.pick(2 * len(m.body.Types))
	if other < len(m.body.Types) && len(m.typed[other]) > 0 {
		t = other
	}
	return m.place(t), t
}

// stmt returns a valid statement.
func (m *maker) stmt() api.Stmt {
	choice := m.pick(9)
	switch {
	case len(m.body.Locals) == 0 || choice == 0:
		return Nop()
	case choice == 1:
		return Dead(m.pick(len(m.body.Locals)))
	}
	const most = 3
	for range most {
		p, t := m.target()
		s := Assign(p, m.rvalue(t))
		if valid.Stmt(m.body, s) == api.OK {
			return s
		}
	}
	return Nop()
}

// call returns a call that is probably valid, for a body that has locals.
func (m *maker) call(target int) api.Term {
	p, _ := m.target()
	t := Call(p, target)
	t.Name = m.name(m.pick(3))
	for range m.pick(3) {
		t.Args = append(t.Args, m.operand(m.pick(len(m.body.Types))))
	}
	return t
}

// term returns a valid terminator.
func (m *maker) term() api.Term {
	n := len(m.body.Blocks)
	t := Goto(m.pick(n))
	hasLocals := len(m.body.Locals) > 0
	switch choice := m.pick(8); {
	case choice < 2:
		t = Branch(m.ofKind(api.Bool), m.pick(n), m.pick(n))
	case choice == 2:
		t = Leave()
	case choice == 3:
		t = api.Term{Kind: api.Unreachable}
	case choice == 4 && hasLocals:
		t = Drop(At(m.pick(len(m.body.Locals))), m.pick(n))
	case choice < 7 && hasLocals:
		t = m.call(m.pick(n))
	}
	if valid.Term(m.body, t) != api.OK {
		return Leave()
	}
	return t
}

// Arbitrary returns a valid body, whose declarations and blocks, up to most, are arbitrary.
func Arbitrary(most int, pick func(n int) int) api.Body {
	m := &maker{pick: pick}
	m.body.Name = m.name(0)
	m.declareRegions()
	m.declareTypes()
	m.declareLocals()
	m.findPlaces()
	m.body.Blocks = make([]api.Block, 1+pick(most))
	for i := range m.body.Blocks {
		x := &m.body.Blocks[i]
		for range pick(7) {
			x.Stmts = append(x.Stmts, m.stmt())
		}
		x.Term = m.term()
	}
	return m.body
}
