// Package build makes bodies and their parts for the tests of the layers.
package build

import (
	"slices"

	"mirtower/api"
)

// Star stands for a Deref in a list of projections, where any other number is the component of a Field.
const Star = -1

// At returns a place.
func At(local int, projs ...int) api.Place {
	p := api.Place{Local: local}
	for _, n := range projs {
		if n == Star {
			p.Proj = append(p.Proj, api.Proj{Kind: api.Deref})
		} else {
			p.Proj = append(p.Proj, api.Proj{Kind: api.Field, Field: n})
		}
	}
	return p
}

// Ref returns a reference.
func Ref(mut bool, region, elem int) api.Type {
	return api.Type{Kind: api.Ref, Mut: mut, Region: region, Elem: elem}
}

// Tuple returns a tuple.
func Tuple(fields ...int) api.Type { return api.Type{Kind: api.Tuple, Fields: fields} }

// CopyOf returns an operand that copies a place.
func CopyOf(local int, projs ...int) api.Operand {
	return api.Operand{Kind: api.Copy, Place: At(local, projs...)}
}

// Move returns an operand that moves a place.
func Move(local int, projs ...int) api.Operand {
	return api.Operand{Kind: api.Move, Place: At(local, projs...)}
}

// Number returns a constant of the type int.
func Number(n int64) api.Operand { return api.Operand{Kind: api.ConstInt, N: n} }

// Truth returns a constant of the type bool.
func Truth(n int64) api.Operand { return api.Operand{Kind: api.ConstBool, N: n} }

// Nothing returns the constant of the type unit.
func Nothing() api.Operand { return api.Operand{Kind: api.ConstUnit} }

// Use returns an operand as an rvalue.
func Use(o api.Operand) api.Rvalue { return api.Rvalue{Kind: api.Use, Args: []api.Operand{o}} }

// Borrow returns a borrow of a place.
func Borrow(region int, mut bool, p api.Place) api.Rvalue {
	return api.Rvalue{Kind: api.Borrow, Region: region, Mut: mut, Place: p}
}

// Unary returns an operation with one operand.
func Unary(op int, o api.Operand) api.Rvalue {
	return api.Rvalue{Kind: api.Unary, Op: op, Args: []api.Operand{o}}
}

// Binary returns an operation with two operands.
func Binary(op int, o, p api.Operand) api.Rvalue {
	return api.Rvalue{Kind: api.Binary, Op: op, Args: []api.Operand{o, p}}
}

// MakeTuple returns a tuple of operands.
func MakeTuple(l ...api.Operand) api.Rvalue { return api.Rvalue{Kind: api.MakeTuple, Args: l} }

// Assign returns an assignment.
func Assign(p api.Place, v api.Rvalue) api.Stmt {
	return api.Stmt{Kind: api.Assign, Place: p, Rvalue: v}
}

// Dead returns the end of a local.
func Dead(local int) api.Stmt { return api.Stmt{Kind: api.Dead, Local: local} }

// Nop returns a statement without effect.
func Nop() api.Stmt { return api.Stmt{Kind: api.Nop} }

// Goto returns a terminator that leads to a block.
func Goto(target int) api.Term { return api.Term{Kind: api.Goto, Targets: []int{target}} }

// Branch returns a terminator that leads to one of two blocks.
func Branch(o api.Operand, yes, no int) api.Term {
	return api.Term{Kind: api.If, Args: []api.Operand{o}, Targets: []int{yes, no}}
}

// Call returns a call of g.
func Call(p api.Place, target int, args ...api.Operand) api.Term {
	return api.Term{Kind: api.Call, Name: "g", Place: p, Targets: []int{target}, Args: args}
}

// Drop returns a terminator that drops a place.
func Drop(p api.Place, target int) api.Term {
	return api.Term{Kind: api.Drop, Place: p, Targets: []int{target}}
}

// Leave returns a terminator that leads to no block.
func Leave() api.Term { return api.Term{Kind: api.Return} }

// Block returns a block.
func Block(t api.Term, stmts ...api.Stmt) api.Block { return api.Block{Stmts: stmts, Term: t} }

// Picker returns a function that makes choices from 0 to n-1 by bytes, and chooses 0 when there are none left.
func Picker(b []byte) func(n int) int {
	next := func() int {
		if len(b) == 0 {
			return 0
		}
		x := int(b[0])
		b = b[1:]
		return x
	}
	return func(n int) int {
		x := next()
		// There may be more choices than bytes have values.
		if n > 256 {
			x = x<<8 + next()
		}
		return x % n
	}
}

// Overwrite fills a slice up to its capacity.
func Overwrite[T any](l []T, x T) {
	l = l[:cap(l)]
	for i := range l {
		l[i] = x
	}
}

// Spare returns a slice with some elements behind its length.
func Spare[T any](l []T, more ...T) []T { return append(l[:len(l):len(l)], more...)[:len(l)] }

// emptied returns a copy of a slice that, if it is empty, is nil or not.
func emptied[T any](l []T, isNil bool) []T {
	switch {
	case len(l) > 0:
		return slices.Clone(l)
	case isNil:
		return nil
	}
	return make([]T, 0, 1)
}

// emptiedPlace is emptied for the slice of a place.
func emptiedPlace(p api.Place, isNil bool) api.Place {
	p.Proj = emptied(p.Proj, isNil)
	return p
}

// emptiedArgs is emptied for operands and the slices of their places.
func emptiedArgs(args []api.Operand, isNil bool) []api.Operand {
	args = emptied(args, isNil)
	for i := range args {
		args[i].Place = emptiedPlace(args[i].Place, isNil)
	}
	return args
}

// emptiedBlock is emptied for all slices of a block.
func emptiedBlock(x api.Block, isNil bool) api.Block {
	x.Stmts = emptied(x.Stmts, isNil)
	for i := range x.Stmts {
		s := &x.Stmts[i]
		s.Place = emptiedPlace(s.Place, isNil)
		s.Rvalue.Place = emptiedPlace(s.Rvalue.Place, isNil)
		s.Rvalue.Args = emptiedArgs(s.Rvalue.Args, isNil)
	}
	x.Term.Targets = emptied(x.Term.Targets, isNil)
	x.Term.Args = emptiedArgs(x.Term.Args, isNil)
	x.Term.Place = emptiedPlace(x.Term.Place, isNil)
	return x
}

// Emptied returns a copy of a body all of whose empty slices are nil, or none.
func Emptied(b api.Body, isNil bool) api.Body {
	b.Regions = emptied(b.Regions, isNil)
	b.Outlives = emptied(b.Outlives, isNil)
	b.Types = emptied(b.Types, isNil)
	for i, t := range b.Types {
		b.Types[i].Fields = emptied(t.Fields, isNil)
	}
	b.Locals = emptied(b.Locals, isNil)
	b.Blocks = emptied(b.Blocks, isNil)
	for i, x := range b.Blocks {
		b.Blocks[i] = emptiedBlock(x, isNil)
	}
	return b
}
