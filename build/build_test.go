package build

import (
	"math"
	"math/bits"
	"reflect"
	"testing"

	"smithy/api"
	"smithy/word"
	"smithy/world"
)

// run is what a function of a program answers of arguments, in a strict process.
func run(t *testing.T, p api.WordProgram, name string, args ...uint64) uint64 {
	t.Helper()
	if word.Check(p) != api.OK || !word.Strict(p) {
		t.Fatal(word.Check(p), word.Strict(p))
	}
	s, e := word.New(p, api.MinHeap, true, world.New(api.World{}))
	if e != api.OK || s.Enter(name, args) != api.OK || s.Run(1000000) != api.WordDone {
		t.Fatal(name, e)
	}
	return s.Answer()
}

// program is a program of a first function, and one more that is written.
func program(params int, write func(b *Builder)) api.WordProgram {
	main := Function("main", 0, func(b *Builder) { b.Ret(b.Const(0)) })
	return api.WordProgram{Funs: []api.WordFunction{main, Function("f", params, write)}, Zero: 64}
}

// Each way to make a value.
func TestValues(t *testing.T) {
	a, c := uint64(0xf0f0f0f0f0f0f0f1), uint64(0x0ff000000000000c)
	high, _ := bits.Mul64(a, c)
	for i, r := range []struct {
		write func(b *Builder) Reg
		want  uint64
	}{
		{func(b *Builder) Reg { return b.Param(0) }, a},
		{func(b *Builder) Reg { return b.Param(1) }, c},
		{func(b *Builder) Reg { return b.Const(-5) }, math.MaxUint64 - 4},
		{func(b *Builder) Reg { return b.Data(24) }, api.DataBase + 24},
		{func(b *Builder) Reg { return b.Heap() }, api.MinHeap},
		{func(b *Builder) Reg { return b.Add(b.Param(0), b.Param(1)) }, a + c},
		{func(b *Builder) Reg { return b.Sub(b.Param(1), b.Param(0)) }, c - a},
		{func(b *Builder) Reg { return b.And(b.Param(0), b.Param(1)) }, a & c},
		{func(b *Builder) Reg { return b.Shl(b.Param(0), b.Param(1)) }, a << 12},
		{func(b *Builder) Reg { return b.Shr(b.Param(0), b.Param(1)) }, a >> 12},
		{func(b *Builder) Reg { return b.Call(0) }, 0},
		{func(b *Builder) Reg { return b.Sys(3, b.Const(99)) }, math.MaxUint64 - 8},
		{func(b *Builder) Reg { b.Store(b.Data(8), 16, b.Param(1)); return b.Load(b.Data(32), -8) }, c},
		{func(b *Builder) Reg { k := b.Keep(b.Param(1)); b.Keep(b.Param(0)); b.Call(0); return b.Kept(k) }, c},
		{func(b *Builder) Reg { x := b.Copy(b.Param(0)); b.Move(b.Param(0), b.Param(1)); return x }, a},
		{func(b *Builder) Reg { b.Move(b.Param(0), b.Param(1)); return b.Param(0) }, c},
		{func(b *Builder) Reg { b.Advance(b.Param(0), b.Param(1)); return b.Param(0) }, a + c},
		{func(b *Builder) Reg { b.Reduce(b.Param(0), b.Param(1)); return b.Param(0) }, a - c},
		{func(b *Builder) Reg { return b.Mul(b.Param(0), b.Param(1)) }, a * c},
		{func(b *Builder) Reg { return b.High(b.Param(0), b.Param(1)) }, high},
		{func(b *Builder) Reg { return b.Div(b.Param(0), b.Param(1)) }, a / c},
		{func(b *Builder) Reg { return b.Rem(b.Param(0), b.Param(1)) }, a % c},
		{func(b *Builder) Reg { return b.Or(b.Param(0), b.Param(1)) }, a | c},
		{func(b *Builder) Reg { return b.Xor(b.Param(0), b.Param(1)) }, a ^ c},
		{func(b *Builder) Reg { return b.Sar(b.Param(0), b.Param(1)) }, uint64(int64(a) >> 12)},
		{func(b *Builder) Reg { return b.RealOf(b.Param(0)) }, math.Float64bits(float64(int64(a)))},
		{func(b *Builder) Reg {
			b.Store(b.Data(16), 0, b.Param(1))
			b.StoreByte(b.Data(17), b.Param(0))
			return b.Load(b.Data(16), 0)
		}, c | 0xf1<<8},
		{func(b *Builder) Reg { b.Store(b.Data(8), 0, b.Param(0)); return b.LoadByte(b.Data(15)) }, a >> 56},
	} {
		p := program(2, func(b *Builder) { b.Ret(r.write(b)) })
		if x := run(t, p, "f", a, c); x != r.want {
			t.Errorf("%d: %#x, wanted %#x", i, x, r.want)
		}
	}
}

// words are some that conditions tell apart.
func words() []uint64 { return []uint64{0, 1, 2, 7, math.MaxUint64, 1 << 63, 1<<63 - 1} }

// holds says what a condition means.
func holds(a uint64, cond int, c uint64) bool {
	switch cond {
	case api.CondEq:
		return a == c
	case api.CondNe:
		return a != c
	case api.CondLt:
		return int64(a) < int64(c)
	case api.CondLe:
		return int64(a) <= int64(c)
	case api.CondLtu:
		return a < c
	}
	return a <= c
}

// A condition's body is done just where it holds, a loop's as long as it does; each within another one.
func TestConditions(t *testing.T) {
	for cond := api.CondEq; cond <= api.CondLeu; cond++ {
		when := program(2, func(b *Builder) {
			b.When(b.Param(0), cond, b.Param(1), func() { b.Ret(b.Const(1)) })
			b.Ret(b.Const(0))
		})
		twice := program(2, func(b *Builder) { // does it behind a body that goes on, too
			x := b.Const(0)
			b.When(b.Param(0), cond, b.Param(1), func() {
				b.When(b.Param(0), cond, b.Param(1), func() { b.Advance(x, b.Const(2)) })
			})
			b.Ret(x)
		})
		either := program(2, func(b *Builder) {
			x := b.Const(0)
			b.Either(b.Param(0), cond, b.Param(1), func() { b.Advance(x, b.Const(4)) }, func() { b.Advance(x, b.Const(5)) })
			b.Ret(x)
		})
		truth := program(2, func(b *Builder) { b.Ret(b.Truth(b.Param(0), cond, b.Param(1))) })
		while := program(2, func(b *Builder) { // what is asked never changes: it is left from within
			x := b.Const(0)
			b.While(b.Param(0), cond, b.Param(1), func() {
				b.Advance(x, b.Const(1))
				b.When(x, api.CondEq, b.Const(3), func() { b.Ret(x) })
			})
			b.Ret(x)
		})
		for _, a := range words() {
			for _, c := range words() {
				want := uint64(0)
				if holds(a, cond, c) {
					want = 1
				}
				if x, y, z := run(t, when, "f", a, c), run(t, twice, "f", a, c), run(t, while, "f", a, c); x != want || y != 2*want || z != 3*want {
					t.Errorf("%#x %d %#x: %d, %d, %d", a, cond, c, x, y, z)
				}
				if x, y := run(t, either, "f", a, c), run(t, truth, "f", a, c); x != 5-want || y != want {
					t.Errorf("%#x %d %#x: %d, %d", a, cond, c, x, y)
				}
			}
		}
	}
}

// Loops within loops.
func TestLoops(t *testing.T) {
	p := program(2, func(b *Builder) {
		sum, one, i := b.Const(0), b.Const(1), b.Const(0)
		b.While(i, api.CondLtu, b.Param(0), func() {
			j := b.Const(0)
			b.While(j, api.CondLtu, b.Param(1), func() {
				b.Advance(sum, i)
				b.Advance(j, one)
			})
			b.Advance(i, one)
		})
		b.Ret(sum)
	})
	for _, r := range [][3]uint64{{0, 5, 0}, {5, 0, 0}, {1, 1, 0}, {2, 1, 1}, {10, 7, 315}} {
		if x := run(t, p, "f", r[0], r[1]); x != r[2] {
			t.Error(r, x)
		}
	}
}

// A loop is left where it is told, from within another one, too.
func TestLeave(t *testing.T) {
	p := program(1, func(b *Builder) { // the least k from 1 on for which n is not above 1 + 2 + .. k
		n, k, one := b.Param(0), b.Const(1), b.Const(1)
		b.Loop(func(leave func()) {
			left := b.Copy(n)
			i := b.Copy(k)
			b.Loop(func(inner func()) {
				b.When(left, api.CondLeu, i, leave)
				b.Reduce(left, i)
				b.Reduce(i, one)
				b.When(i, api.CondEq, b.Const(0), inner)
			})
			b.Advance(k, one)
		})
		b.Ret(k)
	})
	for n, want := range []uint64{1, 1, 2, 2, 3, 3, 3, 4} {
		if x := run(t, p, "f", uint64(n)); x != want {
			t.Errorf("%d: %d, wanted %d", n, x, want)
		}
	}
}

// Into sets a register by the instruction that has made a value, if that is the last one, and by another one else.
func TestInto(t *testing.T) {
	of := func(write func(b *Builder)) []int {
		f := Function("f", 2, write)
		var kinds []int
		for _, w := range f.Code {
			kinds = append(kinds, w.Kind)
		}
		return kinds
	}
	for i, r := range []struct {
		write func(b *Builder)
		kinds []int
		want  uint64
	}{
		{func(b *Builder) { b.Into(b.Param(0), b.Sub(b.Param(1), b.Param(0))); b.Ret(b.Param(0)) }, []int{api.WordSub, api.WordRet}, 30},
		{func(b *Builder) { b.Into(b.Param(0), b.Param(1)); b.Ret(b.Param(0)) }, []int{api.WordMove, api.WordRet}, 40},
		{func(b *Builder) {
			x := b.Sub(b.Param(1), b.Param(0))
			b.Advance(x, x)
			b.Into(b.Param(1), x)
			b.Ret(b.Param(1))
		}, []int{api.WordSub, api.WordAdd, api.WordMove, api.WordRet}, 60},
		{func(b *Builder) {
			x := b.Sub(b.Param(1), b.Param(0))
			y := b.Const(7)
			b.Into(b.Param(0), x)
			b.Ret(b.Add(b.Param(0), y))
		}, []int{api.WordSub, api.WordConst, api.WordMove, api.WordAdd, api.WordRet}, 37},
	} {
		if kinds := of(r.write); !reflect.DeepEqual(kinds, r.kinds) {
			t.Errorf("%d: kinds %d, wanted %d", i, kinds, r.kinds)
		}
		if x := run(t, program(2, r.write), "f", 10, 40); x != r.want {
			t.Errorf("%d: %d, wanted %d", i, x, r.want)
		}
	}
}

// Calls and tails hand over their arguments, in order.
func TestCalls(t *testing.T) {
	p := program(3, func(b *Builder) { b.Tail(2, b.Param(2), b.Param(0), b.Call(2, b.Param(1), b.Param(0), b.Param(0))) })
	p.Funs = append(p.Funs, Function("g", 3, func(b *Builder) { b.Ret(b.Sub(b.Param(0), b.Add(b.Param(1), b.Param(2)))) }))
	q := program(3, func(b *Builder) {
		kept, again := b.Keep(b.Param(0)), b.Keep(b.Param(2))
		inner := b.Call(2, b.Param(1), b.Param(0), b.Param(0))
		b.Tail(2, b.Kept(again), b.Kept(kept), inner)
	})
	q.Funs = append(q.Funs, p.Funs[2])
	if word.Strict(p) { // what was set is set no more behind the call
		t.Error("strict")
	}
	if x := run(t, q, "f", 1, 50, 1000); x != 1000-1-(50-2) {
		t.Error(x)
	}
}

// What is written shares nothing with what else is; without arguments there is no list.
func TestShares(t *testing.T) {
	args := []Reg{0, 1}
	write := func(b *Builder) {
		b.Call(7)
		b.Call(8, args...)
		b.Tail(9, args...)
	}
	a, c := Function("a", 2, write), Function("a", 2, write)
	want := api.WordFunction{Name: "a", Params: 2, Regs: 4, Code: []api.Word{
		{Kind: api.WordCall, D: 2, F: 7}, {Kind: api.WordCall, D: 3, F: 8, Args: []int{0, 1}}, {Kind: api.WordTail, F: 9, Args: []int{0, 1}}}}
	if !reflect.DeepEqual(a, want) {
		t.Error(a)
	}
	a.Code[1].Args[0], a.Code[2].Args[1], args[0] = 5, 6, 7
	a.Code[0] = api.Word{}
	if !reflect.DeepEqual(c, want) || a.Code[1].Args[1] != 1 || a.Code[2].Args[0] != 0 {
		t.Error(c, a)
	}
}
