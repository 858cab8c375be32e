package build

import (
	"reflect"
	"testing"

	"smithy/api"
)

// Labels may be placed anywhere, and be gone to from anywhere.
func TestLabels(t *testing.T) {
	p := program(1, func(b *Builder) {
		great, over, out := b.NewLabel(), b.NewLabel(), b.Const(1)
		b.Branch(b.Const(9), api.CondLtu, b.Param(0), great)
		b.Move(out, b.Const(2))
		b.Jump(over)
		b.Place(great)
		b.Move(out, b.Const(3))
		b.Place(over)
		b.When(b.Param(0), api.CondEq, b.Const(20), func() { b.Move(out, b.Const(4)) })
		b.Ret(out)
	})
	for x, want := range map[uint64]uint64{0: 2, 9: 2, 10: 3, 20: 4} {
		if got := run(t, p, "f", x); got != want {
			t.Errorf("%d: %d, wanted %d", x, got, want)
		}
	}
}

// Functions are called by their addresses, and go on in one's place by them.
func TestAddresses(t *testing.T) {
	less := Function("less", 2, func(b *Builder) { b.Ret(b.Sub(b.Param(0), b.Param(1))) })
	for i, write := range []func(b *Builder){
		func(b *Builder) { b.Ret(b.Apply(b.Address(2), b.Param(1), b.Param(0))) },
		func(b *Builder) { b.Go(b.Address(2), b.Param(1), b.Param(0)) },
	} {
		p := program(2, write)
		p.Funs = append(p.Funs, less)
		if got := run(t, p, "f", 30, 100); got != 70 {
			t.Errorf("%d: %d", i, got)
		}
	}
}

// A number may be told later; all that was written is counted.
func TestLater(t *testing.T) {
	p := program(0, func(b *Builder) {
		first, tell := b.Later()
		second, tellToo := b.Later()
		b.Ret(b.Sub(first, second))
		if b.Many() != 4 {
			t.Error(b.Many())
		}
		tellToo(8)
		tell(50)
	})
	if got := run(t, p, "f"); got != 42 {
		t.Error(got)
	}
}

// Registers that are forgotten are given again; a function has as many as were in use at one time.
func TestForget(t *testing.T) {
	f := Function("f", 2, func(b *Builder) {
		x := b.Const(1)
		b.Forget(x + 1)
		for range 10 {
			b.Into(x, b.Add(x, b.Const(2)))
			b.Forget(x + 1)
		}
		b.Forget(b.Param(1))
		b.Forget(5)
		b.Ret(x)
	})
	if f.Regs != 5 || run(t, api.WordProgram{Funs: []api.WordFunction{Function("main", 0, func(b *Builder) { b.Ret(b.Const(0)) }), f}}, "f", 7, 8) != 21 {
		t.Error(f.Regs)
	}
	// what the last instruction has set stays, though its register is given again
	f = Function("f", 2, func(b *Builder) {
		y := b.Add(b.Param(0), b.Param(1))
		z := b.Const(5)
		b.Forget(z)
		b.Into(b.Param(0), y)
		b.Ret(b.Param(0))
	})
	want := []int{api.WordAdd, api.WordConst, api.WordMove, api.WordRet}
	var kinds []int
	for _, w := range f.Code {
		kinds = append(kinds, w.Kind)
	}
	if !reflect.DeepEqual(kinds, want) || f.Code[1].D != 3 || f.Regs != 4 {
		t.Error(kinds, f.Code)
	}
}
