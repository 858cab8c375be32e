package build

import "smithy/api"

func (b *Builder) newLabel() int {
	b.labels++
	return b.labels
}

func (b *Builder) label(l int) { b.put(api.Word{Kind: api.WordLabel, L: l}) }

func (b *Builder) branch(a Reg, cond int, c Reg, l int) {
	b.put(api.Word{Kind: api.WordBranch, A: int(a), B: int(c), Cond: cond, L: l})
}

func (b *Builder) jump(l int) { b.put(api.Word{Kind: api.WordJump, L: l}) }

// Loop does something again and again, till it comes to what leave has written.
func (b *Builder) Loop(do func(leave func())) {
	again, over := b.newLabel(), b.newLabel()
	b.label(again)
	do(func() { b.jump(over) })
	b.jump(again)
	b.label(over)
}

// While does something again and again, as long as a cond c. The question stands behind it, so that going round is one step.
func (b *Builder) While(a Reg, cond int, c Reg, do func()) {
	again, ask := b.newLabel(), b.newLabel()
	b.jump(ask)
	b.label(again)
	do()
	b.label(ask)
	b.branch(a, cond, c, again)
}

// When does something, if a cond c.
func (b *Builder) When(a Reg, cond int, c Reg, do func()) {
	over := b.newLabel()
	a, cond, c = opposite(a, cond, c)
	b.branch(a, cond, c, over)
	do()
	b.label(over)
}

// Either does something, if a cond c, and something other else.
func (b *Builder) Either(a Reg, cond int, c Reg, do, other func()) {
	here, over := b.newLabel(), b.newLabel()
	b.branch(a, cond, c, here)
	other()
	b.jump(over)
	b.label(here)
	do()
	b.label(over)
}

// opposite is what holds just where a cond c doesn't.
func opposite(a Reg, cond int, c Reg) (Reg, int, Reg) {
	switch cond {
	case api.CondEq:
		return a, api.CondNe, c
	case api.CondNe:
		return a, api.CondEq, c
	case api.CondLt:
		return c, api.CondLe, a
	case api.CondLe:
		return c, api.CondLt, a
	case api.CondLtu:
		return c, api.CondLeu, a
	}
	return c, api.CondLtu, a
}

// Call is what the function f answers.
func (b *Builder) Call(f int, args ...Reg) Reg {
	return b.set(api.Word{Kind: api.WordCall, F: f, Args: numbers(args)})
}

// Tail lets the function f go on in this one's place.
func (b *Builder) Tail(f int, args ...Reg) {
	b.put(api.Word{Kind: api.WordTail, F: f, Args: numbers(args)})
}

// Sys is what a system call answers.
func (b *Builder) Sys(call int64, args ...Reg) Reg {
	return b.set(api.Word{Kind: api.WordSys, Imm: call, Args: numbers(args)})
}

// Ret answers a.
func (b *Builder) Ret(a Reg) { b.put(api.Word{Kind: api.WordRet, A: int(a)}) }

func numbers(l []Reg) []int {
	var out []int
	for _, r := range l {
		out = append(out, int(r))
	}
	return out
}
