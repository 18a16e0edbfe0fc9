package build_test

import (
	"fmt"
	"math/rand"
	"reflect"
	"slices"
	"testing"

	"mirtower/api"
	"mirtower/bodies"
	"mirtower/build"
	"mirtower/valid"
)

// full returns a body that has all kinds of slices, some of which are empty.
func full() api.Body {
	s := build.Assign(build.At(0, build.Star, 2), build.MakeTuple(build.CopyOf(1), build.Move(1, 3)))
	t := build.Call(build.At(0), 0, build.Number(1), build.CopyOf(1, 1))
	return api.Body{Name: "f", Types: []api.Type{{}, build.Tuple(0)}, Blocks: []api.Block{build.Block(t, s, build.Nop()), build.Block(build.Leave())}}
}

// A place has a Deref for each Star.
func TestAt(t *testing.T) {
	want := api.Place{Local: 4, Proj: []api.Proj{{Kind: api.Deref}, {Kind: api.Field, Field: 2}}}
	if got := build.At(4, build.Star, 2); !reflect.DeepEqual(got, want) {
		t.Errorf("got %v", got)
	}
	if got := build.At(4); !reflect.DeepEqual(got, api.Place{Local: 4}) {
		t.Errorf("got %v", got)
	}
}

// Choices are within their bounds, also when there are no bytes left.
func TestPicker(t *testing.T) {
	pick := build.Picker([]byte{5, 5, 1, 2, 3})
	got := []int{pick(10), pick(3), pick(1000), pick(500), pick(7), pick(1000)}
	if want := []int{5, 2, 258, 268, 0, 0}; !slices.Equal(got, want) {
		t.Errorf("got %v, want %v", got, want)
	}
}

// visit visits all slices of a value.
func visit(v reflect.Value, see func(reflect.Value)) {
	switch v.Kind() {
	case reflect.Struct:
		for i := range v.NumField() {
			visit(v.Field(i), see)
		}
	case reflect.Slice:
		see(v)
		for i := range v.Len() {
			visit(v.Index(i), see)
		}
	}
}

// All empty slices of a body become nil, or none, in new memory.
func TestEmptied(t *testing.T) {
	for _, isNil := range []bool{true, false} {
		b := full()
		got := build.Emptied(build.Emptied(b, !isNil), isNil)
		visit(reflect.ValueOf(got), func(v reflect.Value) {
			if v.Len() == 0 && v.IsNil() != isNil {
				t.Errorf("an empty %v is nil: %v", v.Type(), !isNil)
			}
		})
		if again := build.Emptied(got, true); !reflect.DeepEqual(again, build.Emptied(b, true)) {
			t.Errorf("got %v of %v", again, b)
		}
		visit(reflect.ValueOf(got), func(v reflect.Value) {
			for i := range v.Len() {
				v.Index(i).SetZero()
			}
		})
		if !reflect.DeepEqual(b, full()) {
			t.Error("the body was modified")
		}
	}
}

// What is behind the length of a slice can be written without an effect on another one.
func TestSpare(t *testing.T) {
	l := []int{1, 2, 3}
	got := build.Spare(l[:2], 7)
	if !slices.Equal(got, l[:2]) || got[:3][2] != 7 || l[2] != 3 {
		t.Errorf("got %v of %v", got[:3], l)
	}
	build.Overwrite(got, 9)
	if !slices.Equal(got[:3], []int{9, 9, 9}) || !slices.Equal(l, []int{1, 2, 3}) {
		t.Errorf("got %v of %v", got[:3], l)
	}
}

// checkArbitrary checks that a body is valid, and adds its kinds to those that were seen.
func checkArbitrary(t *testing.T, b api.Body, most int, seen map[string]int) {
	t.Helper()
	if e := valid.Check(b); e != api.OK || len(b.Blocks) > most {
		t.Fatalf("%+v with at most %d blocks: %v", b, most, e)
	}
	for _, x := range b.Types {
		seen[fmt.Sprint("type ", x.Kind)]++
	}
	for _, c := range b.Blocks {
		for _, s := range c.Stmts {
			if s.Kind == api.Assign {
				seen[fmt.Sprint("rvalue ", s.Rvalue.Kind)]++
			} else {
				seen[fmt.Sprint("statement ", s.Kind)]++
			}
		}
		for _, o := range bodies.Operands(c) {
			seen[fmt.Sprint("operand ", o.Kind)]++
		}
		seen[fmt.Sprint("terminator ", c.Term.Kind)]++
	}
}

// Arbitrary bodies are valid and have all kinds of parts.
func TestArbitrary(t *testing.T) {
	r := rand.New(rand.NewSource(1))
	seen := map[string]int{}
	for range 1000 {
		most := 1 + r.Intn(6)
		checkArbitrary(t, build.Arbitrary(most, r.Intn), most, seen)
	}
	for part, kinds := range map[string]int{"type": 5, "operand": 5, "rvalue": 5, "terminator": 6} {
		for kind := range kinds {
			if k := fmt.Sprint(part, " ", kind); seen[k] < 100 {
				t.Errorf("%s only %d times", k, seen[k])
			}
		}
	}
	if seen["statement 1"] < 100 || seen["statement 2"] < 100 {
		t.Errorf("got %v", seen)
	}
}

// The same choices make the same body, in new memory, and there need not be any.
func TestArbitraryChoices(t *testing.T) {
	choices := []byte("Which declarations, statements and terminators a body has is decided by bytes such as these.")
	b := build.Arbitrary(4, build.Picker(choices))
	before := bodies.Clone(b)
	c := build.Arbitrary(4, build.Picker(choices))
	if !bodies.Equal(b, c) {
		t.Errorf("got %v and %v", b, c)
	}
	visit(reflect.ValueOf(c), func(v reflect.Value) {
		for i := range v.Len() {
			v.Index(i).SetZero()
		}
	})
	if !bodies.Equal(b, before) {
		t.Error("the bodies share memory")
	}
	checkArbitrary(t, build.Arbitrary(1, build.Picker(nil)), 1, map[string]int{})
}
