package build

import (
	"math"
	"testing"

	"smithy/api"
	"smithy/heap"
	"smithy/word"
)

// Each way to reckon with reals.
func TestReals(t *testing.T) {
	x, y := 2.5, -0.75
	for how, want := range map[int]uint64{
		api.RealAdd: math.Float64bits(1.75), api.RealSub: math.Float64bits(3.25), api.RealMul: math.Float64bits(-1.875), api.RealDiv: math.Float64bits(x / y),
		api.RealLt: 0, api.RealLe: 0, api.RealEq: 0, api.RealInt: math.Float64bits(float64(int64(math.Float64bits(x)))),
	} {
		p := program(2, func(b *Builder) { b.Ret(b.Real(how, b.Param(0), b.Param(1))) })
		if got := run(t, p, "f", math.Float64bits(x), math.Float64bits(y)); got != want {
			t.Errorf("%d: %#x, wanted %#x", how, got, want)
		}
	}
}

// Numbers of the functions beside the one that is written.
const (
	firstCollector = 2
	raiser         = 5
)

// valued is a program whose function writes with values' numbers. Its gc.alloc answers three times what it is asked for, its raise 1000
// more than it is told.
func valued(params int, write func(v *Values)) api.WordProgram {
	p := program(params, func(b *Builder) { write(NewValues(b, firstCollector, raiser)) })
	none := func(b *Builder) { b.Ret(b.Const(-1)) }
	p.Funs = append(p.Funs, Function("gc.start", 0, none),
		Function("gc.alloc", 1, func(b *Builder) { b.Ret(b.Mul(b.Param(0), b.Const(3))) }),
		Function("gc.minor", 0, none),
		Function("raise", 1, func(b *Builder) { b.Ret(b.Add(b.Param(0), b.Const(1000))) }))
	return p
}

// What is written for values, and the numbers that outlive each call.
func TestValuesOfThings(t *testing.T) {
	head := Header(api.HeapText, 77)
	for i, r := range []struct {
		write func(v *Values) Reg
		want  uint64
	}{
		{func(v *Values) Reg { return v.Add(v.Zero, v.Add(v.One, v.Eight)) }, 9},
		{func(v *Values) Reg { return v.Alloc(v.Const(64)) }, 192},
		{func(v *Values) Reg { v.Alloc(v.Eight); return v.Add(v.Zero, v.Add(v.One, v.Eight)) }, 9},
		{func(v *Values) Reg {
			v.Call(firstCollector)
			return v.Add(v.Call(firstCollector+1, v.One), v.Add(v.Zero, v.Eight))
		}, 11},
		{func(v *Values) Reg { v.Raise(6); return v.One }, 1006},
		{func(v *Values) Reg { v.RaiseOf(v.Eight); return v.One }, 1008},
		{func(v *Values) Reg { return v.Whole(v.Param(0)) }, 24},
		{func(v *Values) Reg { return v.Whole(v.Zero) }, 0},
		{func(v *Values) Reg { return v.Whole(v.One) }, 8},
		{func(v *Values) Reg { return v.Whole(v.Eight) }, 8},
		{func(v *Values) Reg { v.Store(v.Data(8), 0, v.Const(head)); return v.Length(v.Data(8)) }, 77},
		{func(v *Values) Reg { v.Store(v.Data(8), 0, v.Const(head|32)); return v.Length(v.Data(8)) }, 77},
		{func(v *Values) Reg { return v.Small(v.Param(0)) }, 35},
		{func(v *Values) Reg { return v.Small(v.Const(-4)) }, math.MaxUint64 - 6},
		{func(v *Values) Reg { return v.Turned(v.Param(0), v.Zero) }, 17},
		{func(v *Values) Reg { return v.Turned(v.Param(0), v.Const(-1)) }, math.MaxUint64 - 16},
		{func(v *Values) Reg { return v.Sign(v.Const(9)) }, 0},
		{func(v *Values) Reg { return v.Sign(v.Const(-9)) }, 1},
		{func(v *Values) Reg { v.Store(v.Data(8), 0, v.Const(Header(api.HeapBig, 8))); return v.Sign(v.Data(8)) }, 0},
		{func(v *Values) Reg {
			v.Store(v.Data(8), 0, v.Const(Header(api.HeapBig, 8)|1<<TagAt))
			return v.Sign(v.Data(8))
		}, 1},
	} {
		p := valued(1, func(v *Values) { v.Ret(r.write(v)) })
		if word.Check(p) != api.OK {
			t.Fatal(i, word.Check(p))
		}
		if x := run(t, p, "f", 17); x != r.want {
			t.Errorf("%d: %d, wanted %d", i, int64(x), r.want)
		}
	}
}

// A header is that of the thing.
func TestHeader(t *testing.T) {
	for _, x := range []api.Thing{{Kind: api.HeapText, Bytes: "abcde"}, {Kind: api.HeapBlock}, {Kind: api.HeapBytes, Bytes: "12345678"}, {Kind: api.HeapCell, Refs: make([]api.Ref, 1)}, {Kind: api.HeapVector, Refs: make([]api.Ref, 300)}} {
		if h := Header(int64(x.Kind), int64(len(x.Bytes)+len(x.Refs))); uint64(h) != heap.Header(x) {
			t.Errorf("kind %d: %#x, wanted %#x", x.Kind, h, heap.Header(x))
		}
	}
}
