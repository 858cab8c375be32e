package bigrt

import (
	"fmt"
	"math"
	"reflect"
	"slices"
	"sync"
	"testing"

	"smithy/api"
	"smithy/big"
	"smithy/build"
	"smithy/gcrt"
	"smithy/word"
	"smithy/world"
)

// table is the chapter's: the functions' names, by their numbers.
func table() []string {
	return []string{"int.add", "int.sub", "int.mul", "int.div", "int.mod", "int.neg", "int.lt", "int.le", "int.same", "int.text", "int.real", "real.floor", "real.bits", "raise"}
}

const collectors = 6 // functions of chapter 15's table

// P16.1: names, parameters, numbers, whatever the first ones are.
func TestFunctions(t *testing.T) {
	t.Parallel()
	numbers := []int{0, 1, 7, 100, 1 << 20, 1 << 40, math.MaxInt, -1, -100, math.MinInt}
	for _, base := range numbers {
		for _, gc := range numbers {
			l := Functions(base, gc)
			if len(l) < len(table()) {
				t.Fatal(base, gc, len(l))
			}
			for i, name := range table() {
				if l[i].Name != name || l[i].Params != 1 {
					t.Errorf("base %d, gc %d, number %d: %s of %d", base, gc, i, l[i].Name, l[i].Params)
				}
			}
			names := map[string]bool{}
			for _, f := range l {
				if names[f.Name] {
					t.Errorf("%s is there twice", f.Name)
				}
				names[f.Name] = true
			}
		}
	}
}

// P16.1: they call functions of the collector's table and their own, do no system calls, and name the cells that are theirs.
func TestCalled(t *testing.T) {
	t.Parallel()
	const base, gc = 1000, 5000
	l := Functions(base, gc)
	for _, f := range l {
		for _, w := range f.Code {
			switch w.Kind {
			case api.WordCall, api.WordTail, api.WordFunc:
				if own, other := w.F-base, w.F-gc; (own < 0 || own >= len(l)) && (other < 0 || other >= collectors) {
					t.Errorf("%s calls %d", f.Name, w.F)
				}
			case api.WordData:
				if w.Imm != 24 && (w.Imm < 32 || w.Imm >= 256) {
					t.Errorf("%s names the place %d", f.Name, w.Imm)
				}
			case api.WordSys, api.WordApply, api.WordGo:
				t.Errorf("%s has an instruction of kind %d", f.Name, w.Kind)
			}
		}
	}
}

// others are n functions that have nothing to do with integers: each answers a number.
func others(n int) []api.WordFunction {
	var out []api.WordFunction
	for i := range n {
		out = append(out, build.Function(fmt.Sprint("other", i), 0, func(b *build.Builder) { b.Ret(b.Const(int64(i))) }))
	}
	return out
}

// programs have others ahead of the functions, between, and behind them; the collector's stand first, or last.
func programs() []api.WordProgram {
	var out []api.WordProgram
	for _, ahead := range []int{1, 2, 1000} {
		for _, between := range []int{0, 1, 300} {
			gc := gcrt.Functions(ahead)
			base := ahead + len(gc) + between
			l := slices.Concat(others(ahead), gc, others(between), Functions(base, ahead), others(3))
			out = append(out, api.WordProgram{Funs: l, Data: make([]byte, gcrt.Cells())})
			own := len(Functions(0, 0))
			base = ahead + own + between
			l = slices.Concat(others(ahead), Functions(ahead, base), others(between), gcrt.Functions(base))
			out = append(out, api.WordProgram{Funs: l, Data: make([]byte, gcrt.Cells()+800)})
		}
	}
	return out
}

// P16.1: such programs may be, read nothing that isn't set, and do the same.
func TestPrograms(t *testing.T) {
	t.Parallel()
	for i, p := range programs() {
		if e := word.Check(p); e != api.OK || !word.Strict(p) {
			t.Fatalf("program %d: %v, strict %v", i, e, word.Strict(p))
		}
		b := benchOf(t, p, least, i%2 == 0)
		x, y := big.Neg(near(power2(500), 77)), near(power2(300), -3)
		for range 40 { // there is room for a few of them alone
			b.two(integer(x), integer(y))
			b.two(integer(x), number(12))
			b.one(integer(x))
			b.real(math.Float64bits(-1e200))
			b.real(math.Float64bits(math.Inf(1)))
		}
	}
}

// P16.1: Program, in heaps of many sizes.
func TestProgram(t *testing.T) {
	t.Parallel()
	p, gc := Program(), gcrt.Functions(1)
	if p.Funs[0].Name != "main" || !reflect.DeepEqual(p.Funs[1:1+len(gc)], gc) || !reflect.DeepEqual(p.Funs[1+len(gc):], Functions(1+len(gc), 1)) ||
		!slices.Equal(p.Data, make([]byte, gcrt.Cells())) || p.Zero != 0 {
		t.Error("not as it should stand")
	}
	if word.Check(p) != api.OK || !word.Strict(p) {
		t.Error(word.Check(p), word.Strict(p))
	}
	for _, size := range []uint64{least, least + 1, 1 << 20, 1 << 24, api.MaxHeap} {
		for _, strict := range []bool{false, true} {
			w := world.New(api.World{})
			s, e := word.New(p, size, strict, w)
			if e != api.OK {
				t.Fatal(e)
			}
			if st := s.Run(10000); st != api.Exited || s.Code() != 0 || len(w.Trace()) != 0 {
				t.Errorf("heap %d, strict %v: %d, code %d", size, strict, st, s.Code())
			}
			if x, _ := s.Load(bottomAt, 8); x < heapBase || x >= heapBase+size {
				t.Error("gc.start wasn't called")
			}
		}
	}
}

// memory is what lists of answers lie in.
type memory struct {
	funs  map[*api.WordFunction]bool
	code  map[*api.Word]bool
	args  map[*int]bool
	bytes map[*byte]bool
}

// own tells whether a list's memory, its spare room with it, is its own alone; an empty list has none.
func own[T any](known map[*T]bool, l []T) bool {
	fine := l == nil || len(l) > 0
	l = l[:cap(l)]
	for i := range l {
		fine = fine && !known[&l[i]]
		known[&l[i]] = true
	}
	return fine
}

func (m memory) take(l []api.WordFunction) bool {
	fine := own(m.funs, l)
	for _, f := range l {
		fine = own(m.code, f.Code) && fine
		for _, w := range f.Code {
			fine = own(m.args, w.Args) && fine
		}
	}
	return fine
}

// R3, R4: no list of an answer has memory in common with another one, of this or another answer.
func TestShares(t *testing.T) {
	t.Parallel()
	m := memory{map[*api.WordFunction]bool{}, map[*api.Word]bool{}, map[*int]bool{}, map[*byte]bool{}}
	var all []any // nothing that was answered may be given again
	for i := range 3 {
		p, l := Program(), Functions(7, 1)
		all = append(all, p, l)
		if !m.take(p.Funs) || !own(m.bytes, p.Data) || !m.take(l) {
			t.Error("memory in common, answer", i)
		}
	}
	if !reflect.DeepEqual(all[0], all[4]) || !reflect.DeepEqual(all[1], all[5]) {
		t.Error("not the same answer twice")
	}
}

// R4: calls from several hands at the same time.
func TestHands(t *testing.T) {
	t.Parallel()
	var all sync.WaitGroup
	want, funs := Program(), Functions(3, 9)
	for range 8 {
		all.Go(func() {
			for range 20 {
				if !reflect.DeepEqual(Program(), want) || !reflect.DeepEqual(Functions(3, 9), funs) {
					t.Error("another answer")
				}
			}
		})
	}
	all.Wait()
}
