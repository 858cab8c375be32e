package gcrt

import (
	"testing"

	"smithy/api"
	"smithy/build"
	"smithy/word"
	"smithy/world"
)

// Places of words that the programs below use for what outlives calls.
const (
	countAt = 160
	sizeAt  = 168
)

// endless is a program whose main calls gc.start, and then for ever: asks for bytes, more and more of them up to a bound, lays a
// vector there whose values are small, and does something with its address.
func endless(ahead int, most int64, use func(b *build.Builder, base int, at build.Reg)) api.WordProgram {
	base := 1 + ahead
	main := build.Function("main", 0, func(b *build.Builder) {
		b.Call(base + startFunction)
		b.Store(b.Data(sizeAt), 0, b.Const(8))
		zero := b.Const(0)
		b.While(zero, api.CondEq, zero, func() {
			at := b.Call(base+allocFunction, b.Load(b.Data(sizeAt), 0))
			layVector(b, at)
			use(b, base, at)
			count(b)
			grow(b, most)
			b.Move(zero, b.Const(0))
		})
		b.Ret(zero)
	})
	l := append([]api.WordFunction{main}, others(ahead)...)
	return api.WordProgram{Funs: append(l, Functions(base)...), Zero: Cells()}
}

// layVector lays a vector of the size that was asked for; each of its values is the small number 0.
func layVector(b *build.Builder, at build.Reg) {
	size, word, one := b.Load(b.Data(sizeAt), 0), b.Const(8), b.Const(1)
	length := b.Shr(b.Sub(size, word), b.Const(3))
	b.Store(at, 0, b.Add(b.Shl(length, b.Const(24)), b.Const(1|api.HeapVector<<1)))
	p, end := b.Add(at, word), b.Add(at, size)
	b.While(p, api.CondLtu, end, func() {
		b.Store(p, 0, one)
		b.Advance(p, word)
	})
}

func count(b *build.Builder) {
	cells := b.Data(0)
	b.Store(cells, countAt, b.Add(b.Load(cells, countAt), b.Const(1)))
}

// grow has 8 bytes more asked for the next time, and 8 again behind a bound.
func grow(b *build.Builder, most int64) {
	cells := b.Data(0)
	size := b.Add(b.Load(cells, sizeAt), b.Const(8))
	b.When(b.Const(most), api.CondLtu, size, func() { b.Move(size, b.Const(8)) })
	b.Store(cells, sizeAt, size)
}

// letGo does nothing with it.
func letGo(*build.Builder, int, build.Reg) {}

// keepLast has the word at 24 hold it.
func keepLast(b *build.Builder, _ int, at build.Reg) { b.Store(b.Data(24), 0, at) }

// keepEight has each cell of exceptions hold one in turn, with its mark.
func keepEight(b *build.Builder, base int, at build.Reg) {
	turn := b.And(b.Load(b.Data(countAt), 0), b.Const(7))
	cell := b.Add(b.Data(32), b.Shl(turn, b.Const(4)))
	b.Store(cell, 8, at)
	b.Call(base+markFunction, cell)
}

// pushAndPop holds it for a while: the held words grow up to 64, and are let go all at once.
func pushAndPop(b *build.Builder, _ int, at build.Reg) {
	cells := b.Data(0)
	top := b.Load(cells, 0)
	b.Store(top, 0, at)
	top = b.Add(top, b.Const(8))
	bottom := b.Load(cells, 8)
	b.When(b.Const(64*8), api.CondLtu, b.Sub(top, bottom), func() { b.Move(top, bottom) })
	b.Store(cells, 0, top)
}

// collectToo holds it, and has the collector called, too.
func collectToo(b *build.Builder, base int, at build.Reg) {
	keepLast(b, base, at)
	b.Call(base + minorFunction)
	b.Call(base + majorFunction)
}

// P15.8: programs that keep less than a quarter of their heap run on, however much they ask for.
func TestForEver(t *testing.T) {
	uses := []func(*build.Builder, int, build.Reg){letGo, keepLast, keepEight, pushAndPop, collectToo}
	for _, size := range []uint64{least, least + 7, 100000, 1 << 20, 1 << 40} {
		for i, use := range uses {
			most := []int64{8, 64, 200}[i%3]
			if size == 1<<40 && i > 1 {
				continue
			}
			p := endless(i*5, most, use)
			w := world.New(api.World{})
			if !word.Strict(p) {
				t.Fatal(i, "reads what isn't set")
			}
			s, e := word.New(p, size, i%2 == 0, w)
			if e != api.OK {
				t.Fatal(e)
			}
			st := s.Run(4000000)
			n, _ := s.Load(cellsBase+countAt, 8)
			if st != api.Running || len(w.Trace()) != 0 || n < 5000 {
				t.Errorf("heap %d, use %d: %d, code %d, %v, behind %d times", size, i, st, s.Code(), w.Trace(), n)
			}
		}
	}
}

// P15.8: likewise with all that the promise allows: things of a sixteenth of the heap, of which one is held.
func TestForEverGreat(t *testing.T) {
	for _, size := range []uint64{least, 1 << 17} {
		for i, use := range []func(*build.Builder, int, build.Reg){letGo, keepLast, collectToo} {
			p := endless(0, int64(quarter(size)/2-16)&^7, use)
			w := world.New(api.World{})
			s, e := word.New(p, size, true, w)
			if e != api.OK {
				t.Fatal(e)
			}
			if st := s.Run(20000000); st != api.Running || len(w.Trace()) != 0 {
				t.Errorf("heap %d, use %d: %d, code %d, %v", size, i, st, s.Code(), w.Trace())
			}
		}
	}
}
