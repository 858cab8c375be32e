package prim

import (
	"maps"

	"smithy/api"
	"smithy/big"
)

// Primitive is one: how many arguments it has, and what it does with so many. It looks at the kinds of all of them ahead of
// all else, then at what it raises, then at what it costs.
type Primitive struct {
	Many int
	Do   func(r *Run, args []Value) Value
}

// Primitives are all, by their names.
func Primitives() map[string]Primitive {
	all := map[string]Primitive{}
	for _, some := range []map[string]Primitive{integers(), reals(), texts(), things(), outside()} {
		maps.Copy(all, some)
	}
	return all
}

// one is a primitive with one argument.
func one[A any](do func(r *Run, a A) Value) Primitive {
	return Primitive{1, func(r *Run, args []Value) Value { return do(r, As[A](args[0])) }}
}

// two is a primitive with two arguments.
func two[A, B any](do func(r *Run, a A, b B) Value) Primitive {
	return Primitive{2, func(r *Run, args []Value) Value { return do(r, As[A](args[0]), As[B](args[1])) }}
}

// three is a primitive with three arguments.
func three[A, B, C any](do func(r *Run, a A, b B, c C) Value) Primitive {
	return Primitive{3, func(r *Run, args []Value) Value { return do(r, As[A](args[0]), As[B](args[1]), As[C](args[2])) }}
}

// What is made costs a step for so many bytes; what a part of it has.
const (
	stepBytes   = 64
	limbBytes   = 4
	vectorBytes = 8
)

// pay does the steps that so many bytes cost.
func (r *Run) pay(bytes int) { r.Spend(bytes / stepBytes) }

// integer is an integer that is made.
func (r *Run) integer(a api.Int) Value {
	if len(a.Mag) > api.MaxLimbs {
		return r.RaiseBuiltIn(api.ExnSize)
	}
	r.pay(limbBytes * len(a.Mag))
	return a
}

// text is a text that is made.
func (r *Run) text(s string) Value {
	if len(s) > api.MaxString {
		return r.RaiseBuiltIn(api.ExnSize)
	}
	r.pay(len(s))
	return Text(s)
}

// below is an integer that is 0 to many - 1; the built-in exception of that number is raised, if it is not.
func (r *Run) below(many int, a api.Int, exception int) int {
	n, is := big.Int64(a)
	if !is || n < 0 || n >= int64(many) {
		r.RaiseBuiltIn(exception)
	}
	return int(n)
}

// place is an integer that is a place of so many.
func (r *Run) place(many int, a api.Int) int { return r.below(many, a, api.ExnSubscript) }

// lowByte is an integer modulo 256.
func lowByte(a api.Int) byte {
	_, rest, _ := big.DivMod(a, big.Of(256))
	n, _ := big.Int64(rest)
	return byte(n)
}

func count(n int) Value { return big.Of(int64(n)) }
