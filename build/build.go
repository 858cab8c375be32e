// Package build writes functions of words. What a loop or a condition does is told to it by closures.
package build

import (
	"smithy/api"
)

// Reg is a register of the function that is being written.
type Reg int

// Builder is a function that is being written.
type Builder struct {
	code   []api.Word
	regs   int
	most   int // how many registers there were ahead of some being given again
	slots  int
	labels int
	made   int // how many instructions there were when the last register was set for the first time
}

// Function is the function that is written.
func Function(name string, params int, write func(b *Builder)) api.WordFunction {
	b := &Builder{regs: params}
	write(b)
	return api.WordFunction{Name: name, Params: params, Regs: max(b.regs, b.most), Slots: b.slots, Code: b.code}
}

func (b *Builder) put(w api.Word) { b.code = append(b.code, w) }

// set puts an instruction that sets a register of its own.
func (b *Builder) set(w api.Word) Reg {
	w.D = b.regs
	b.regs++
	b.put(w)
	b.made = len(b.code)
	return Reg(w.D)
}

// Many is how many instructions were written.
func (b *Builder) Many() int { return len(b.code) }

// Forget has registers be given again, from one on: nothing reads any more what is in them.
func (b *Builder) Forget(from Reg) {
	b.most = max(b.most, b.regs)
	b.regs, b.made = int(from), 0
}

// Param is a parameter's register.
func (b *Builder) Param(i int) Reg { return Reg(i) }

// Const is a number.
func (b *Builder) Const(x int64) Reg { return b.set(api.Word{Kind: api.WordConst, Imm: x}) }

// Later is a number that has to be told ahead of the function's end.
func (b *Builder) Later() (r Reg, tell func(x int64)) {
	at := len(b.code)
	return b.Const(0), func(x int64) { b.code[at].Imm = x }
}

// Address is that of the function f.
func (b *Builder) Address(f int) Reg { return b.set(api.Word{Kind: api.WordFunc, F: f}) }

// Data is the address of a place in the data.
func (b *Builder) Data(place int) Reg { return b.set(api.Word{Kind: api.WordData, Imm: int64(place)}) }

// Heap is how many bytes the heap has.
func (b *Builder) Heap() Reg { return b.set(api.Word{Kind: api.WordHeap}) }

// Copy is what a is here, in a register that may be set to something else.
func (b *Builder) Copy(a Reg) Reg { return b.set(api.Word{Kind: api.WordMove, A: int(a)}) }

// Move sets d to a.
func (b *Builder) Move(d, a Reg) { b.put(api.Word{Kind: api.WordMove, D: int(d), A: int(a)}) }

// Into sets d to a, which nothing else reads: if the last instruction has made it, that one sets d itself.
func (b *Builder) Into(d, a Reg) {
	if b.made > 0 && b.made == len(b.code) && int(a) == b.regs-1 {
		b.code[b.made-1].D = int(d)
		return
	}
	b.Move(d, a)
}

// Advance sets d to d + a.
func (b *Builder) Advance(d, a Reg) {
	b.put(api.Word{Kind: api.WordAdd, D: int(d), A: int(d), B: int(a)})
}

// Reduce sets d to d - a.
func (b *Builder) Reduce(d, a Reg) {
	b.put(api.Word{Kind: api.WordSub, D: int(d), A: int(d), B: int(a)})
}

func (b *Builder) op(kind int, a, c Reg) Reg {
	return b.set(api.Word{Kind: kind, A: int(a), B: int(c)})
}

// Add is a + c.
func (b *Builder) Add(a, c Reg) Reg { return b.op(api.WordAdd, a, c) }

// Sub is a - c.
func (b *Builder) Sub(a, c Reg) Reg { return b.op(api.WordSub, a, c) }

// Mul is the lowest word of a c.
func (b *Builder) Mul(a, c Reg) Reg { return b.op(api.WordMul, a, c) }

// High is the highest word of a c.
func (b *Builder) High(a, c Reg) Reg { return b.op(api.WordHigh, a, c) }

// Div is how often c, which is not 0, is in a.
func (b *Builder) Div(a, c Reg) Reg { return b.op(api.WordDiv, a, c) }

// Rem is what is left of a then.
func (b *Builder) Rem(a, c Reg) Reg { return b.op(api.WordRem, a, c) }

// And is a and c, bit by bit.
func (b *Builder) And(a, c Reg) Reg { return b.op(api.WordAnd, a, c) }

// Or is a or c, bit by bit.
func (b *Builder) Or(a, c Reg) Reg { return b.op(api.WordOr, a, c) }

// Xor has the bits of a that c has not, and those of c that a has not.
func (b *Builder) Xor(a, c Reg) Reg { return b.op(api.WordXor, a, c) }

// Shl is a, moved to the left by c.
func (b *Builder) Shl(a, c Reg) Reg { return b.op(api.WordShl, a, c) }

// Shr is a, moved to the right by c.
func (b *Builder) Shr(a, c Reg) Reg { return b.op(api.WordShr, a, c) }

// Sar is a, moved to the right by c, as a number that may be below 0.
func (b *Builder) Sar(a, c Reg) Reg { return b.op(api.WordSar, a, c) }

// Truth is 1, if a cond c, else 0.
func (b *Builder) Truth(a Reg, cond int, c Reg) Reg {
	return b.set(api.Word{Kind: api.WordSet, A: int(a), B: int(c), Cond: cond})
}

// Real is what is done with the reals whose bits a and c are.
func (b *Builder) Real(how int, a, c Reg) Reg {
	return b.set(api.Word{Kind: api.WordReal, A: int(a), B: int(c), Real: how})
}

// RealOf is the bits of the real that is nearest to the number a.
func (b *Builder) RealOf(a Reg) Reg { return b.Real(api.RealInt, a, a) }

// Load is the word at a place behind an address.
func (b *Builder) Load(at Reg, place int) Reg {
	return b.set(api.Word{Kind: api.WordLoad, A: int(at), Imm: int64(place), Size: WordBytes})
}

// LoadByte is the byte at an address.
func (b *Builder) LoadByte(at Reg) Reg {
	return b.set(api.Word{Kind: api.WordLoad, A: int(at), Size: 1})
}

// Store sets the word at a place behind an address.
func (b *Builder) Store(at Reg, place int, x Reg) {
	b.put(api.Word{Kind: api.WordStore, A: int(at), B: int(x), Imm: int64(place), Size: WordBytes})
}

// StoreByte sets the byte at an address to the lowest one of x.
func (b *Builder) StoreByte(at, x Reg) {
	b.put(api.Word{Kind: api.WordStore, A: int(at), B: int(x), Size: 1})
}

// Keep puts a into a slot of its own, where it outlives calls.
func (b *Builder) Keep(a Reg) int {
	b.put(api.Word{Kind: api.WordPut, A: int(a), Imm: int64(b.slots)})
	b.slots++
	return b.slots - 1
}

// Kept is what a slot holds.
func (b *Builder) Kept(slot int) Reg { return b.set(api.Word{Kind: api.WordGet, Imm: int64(slot)}) }
