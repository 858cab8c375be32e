package build

import "smithy/api"

// Label is a place of the function that may be gone to.
type Label int

// NewLabel is one that has to be placed.
func (b *Builder) NewLabel() Label {
	b.labels++
	return Label(b.labels)
}

// Place has a label stand here.
func (b *Builder) Place(l Label) { b.put(api.Word{Kind: api.WordLabel, L: int(l)}) }

// Branch goes on at a label, if a cond c.
func (b *Builder) Branch(a Reg, cond int, c Reg, l Label) {
	b.put(api.Word{Kind: api.WordBranch, A: int(a), B: int(c), Cond: cond, L: int(l)})
}

// Jump goes on at a label.
func (b *Builder) Jump(l Label) { b.put(api.Word{Kind: api.WordJump, L: int(l)}) }

// Loop does something again and again, till it comes to what leave has written.
func (b *Builder) Loop(do func(leave func())) {
	again, over := b.NewLabel(), b.NewLabel()
	b.Place(again)
	do(func() { b.Jump(over) })
	b.Jump(again)
	b.Place(over)
}

// While does something again and again, as long as a cond c. The question stands behind it, so that going round is one step.
func (b *Builder) While(a Reg, cond int, c Reg, do func()) {
	again, ask := b.NewLabel(), b.NewLabel()
	b.Jump(ask)
	b.Place(again)
	do()
	b.Place(ask)
	b.Branch(a, cond, c, again)
}

// When does something, if a cond c.
func (b *Builder) When(a Reg, cond int, c Reg, do func()) {
	over := b.NewLabel()
	a, cond, c = opposite(a, cond, c)
	b.Branch(a, cond, c, over)
	do()
	b.Place(over)
}

// Either does something, if a cond c, and something other else.
func (b *Builder) Either(a Reg, cond int, c Reg, do, other func()) {
	here, over := b.NewLabel(), b.NewLabel()
	b.Branch(a, cond, c, here)
	other()
	b.Jump(over)
	b.Place(here)
	do()
	b.Place(over)
}

// opposite is what holds just where a cond c doesn't.
func opposite(a Reg, cond int, c Reg) (Reg, int, Reg) {
	switch cond {
	case api.CondEq:
		return a, api.CondNe, c
	case api.CondNe:
		return a, api.CondEq, c
	case api.CondLt:
		return c, api.CondLe, a
	case api.CondLe:
		return c, api.CondLt, a
	case api.CondLtu:
		return c, api.CondLeu, a
	}
	return c, api.CondLtu, a
}

// Call is what the function f answers.
func (b *Builder) Call(f int, args ...Reg) Reg {
	return b.set(api.Word{Kind: api.WordCall, F: f, Args: numbers(args)})
}

// Tail lets the function f go on in this one's place.
func (b *Builder) Tail(f int, args ...Reg) {
	b.put(api.Word{Kind: api.WordTail, F: f, Args: numbers(args)})
}

// Apply is what the function answers whose address code is.
func (b *Builder) Apply(code Reg, args ...Reg) Reg {
	return b.set(api.Word{Kind: api.WordApply, A: int(code), Args: numbers(args)})
}

// Go lets the function whose address code is go on in this one's place.
func (b *Builder) Go(code Reg, args ...Reg) {
	b.put(api.Word{Kind: api.WordGo, A: int(code), Args: numbers(args)})
}

// Sys is what a system call answers.
func (b *Builder) Sys(call int64, args ...Reg) Reg {
	return b.set(api.Word{Kind: api.WordSys, Imm: call, Args: numbers(args)})
}

// Ret answers a.
func (b *Builder) Ret(a Reg) { b.put(api.Word{Kind: api.WordRet, A: int(a)}) }

func numbers(l []Reg) []int {
	var out []int
	for _, r := range l {
		out = append(out, int(r))
	}
	return out
}
