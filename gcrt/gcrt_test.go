package gcrt

import (
	"fmt"
	"math"
	"reflect"
	"slices"
	"sync"
	"testing"

	"smithy/api"
	"smithy/build"
	"smithy/word"
	"smithy/world"
)

// table is the chapter's: names, and how many parameters.
var table = []struct {
	name   string
	params int
}{{"gc.start", 0}, {"gc.alloc", 1}, {"gc.minor", 0}, {"gc.major", 0}, {"gc.mark", 1}, {"gc.full", 0}}

// others are n functions that have nothing to do with the collector: each answers a number.
func others(n int) []api.WordFunction {
	var out []api.WordFunction
	for i := range n {
		out = append(out, build.Function(fmt.Sprint("other", i), 0, func(b *build.Builder) { b.Ret(b.Const(int64(i))) }))
	}
	return out
}

// P15.1: names, parameters, numbers; which functions they call, which places of the data they name.
func TestFunctions(t *testing.T) {
	t.Parallel()
	for _, base := range []int{0, 1, 2, 7, 100, 4096, 1 << 20, 1 << 40, math.MaxInt - 4, -1, -100, math.MinInt} {
		l := Functions(base)
		if len(l) < len(table) {
			t.Fatal(base, len(l))
		}
		for i, f := range l {
			if i < len(table) && (f.Name != table[i].name || f.Params != table[i].params) {
				t.Errorf("base %d, number %d: %s of %d", base, i, f.Name, f.Params)
			}
			for _, w := range f.Code {
				called := w.Kind == api.WordCall || w.Kind == api.WordTail || w.Kind == api.WordFunc
				if n := w.F - base; called && (n < 0 || n >= len(l)) {
					t.Errorf("base %d: %s calls %d", base, f.Name, w.F)
				}
				if w.Kind == api.WordData && (w.Imm < 0 || w.Imm > int64(Cells())) {
					t.Errorf("base %d: %s names the place %d", base, f.Name, w.Imm)
				}
				if w.Kind == api.WordSys && w.Imm != 1 && w.Imm != 60 {
					t.Errorf("base %d: %s does the system call %d", base, f.Name, w.Imm)
				}
			}
		}
	}
	if Cells() < 256 || Cells() > 4096 {
		t.Error(Cells(), "bytes of cells")
	}
}

// P15.1: with others ahead of them and behind, and any data, programs may be, and read nothing that isn't set.
func TestPrograms(t *testing.T) {
	t.Parallel()
	for _, base := range []int{0, 1, 2, 7, 1000, 1 << 18} {
		for _, behind := range []int{0, 3} {
			l := slices.Concat(others(base), Functions(base), others(behind))
			for _, p := range []api.WordProgram{
				{Funs: l, Data: make([]byte, Cells())}, {Funs: l, Zero: Cells()}, {Funs: l, Data: append(make([]byte, Cells()), "more"...), Zero: 99}, {Funs: l, Data: make([]byte, 1<<20)},
			} {
				if e := word.Check(p); e != api.OK || !word.Strict(p) {
					t.Fatalf("base %d, %d behind: %v, strict %v", base, behind, e, word.Strict(p))
				}
			}
		}
	}
}

// P15.1: functions do the same wherever they stand.
func TestBases(t *testing.T) {
	t.Parallel()
	for _, base := range []int{0, 1, 2, 7, 1000, 1 << 16} {
		l := slices.Concat(others(base), Functions(base), others(2))
		for _, strict := range []bool{false, true} {
			w := world.New(api.World{})
			s, e := word.New(api.WordProgram{Funs: l, Data: make([]byte, Cells())}, least, strict, w)
			if e != api.OK {
				t.Fatal(base, e)
			}
			call := func(name string, args ...uint64) uint64 {
				if e := s.Enter(name, args); e != api.OK || s.Run(mostSteps(least)) != api.WordDone {
					t.Fatalf("base %d: %s: %v", base, name, e)
				}
				return s.Answer()
			}
			call("gc.start")
			for range 100 { // more than the heap has
				at := call("gc.alloc", 4096)
				s.Store(at, 8, 1|api.HeapText<<1|(4096-8)<<24)
				s.Store(cellsBase+24, 8, at)
			}
			if call("gc.minor") != 1 || call("gc.major") != 1 || call("gc.mark", cellsBase+32) != 1 || len(w.Trace()) != 0 {
				t.Error(base, "answers")
			}
			s.Enter("gc.alloc", []uint64{least})
			if st := s.Run(mostSteps(least)); st != api.Exited || s.Code() != 137 || len(w.Trace()) != 1 {
				t.Error(base, st, s.Code())
			}
		}
	}
}

// P15.1: Program, in heaps of many sizes.
func TestProgram(t *testing.T) {
	t.Parallel()
	p := Program()
	if len(p.Funs) < 7 || p.Funs[0].Name != "main" || !reflect.DeepEqual(p.Funs[1:], Functions(1)) || !slices.Equal(p.Data, make([]byte, Cells())) || p.Zero != 0 {
		t.Error("not as it should stand")
	}
	if word.Check(p) != api.OK || !word.Strict(p) {
		t.Error(word.Check(p), word.Strict(p))
	}
	for _, size := range sizes() {
		for _, strict := range []bool{false, true} {
			w := world.New(api.World{})
			s, e := word.New(p, size, strict, w)
			if e != api.OK {
				t.Fatal(e)
			}
			if st := s.Run(mostSteps(size)); st != api.Exited || s.Code() != 0 || len(w.Trace()) != 0 {
				t.Errorf("heap %d, strict %v: %d, code %d", size, strict, st, s.Code())
			}
			if x, _ := s.Load(cellsBase+8, 8); x < heapBase || x >= heapBase+size {
				t.Error("gc.start wasn't called")
			}
		}
	}
}

// spoil writes over all memory of an answer: its functions, their instructions, and arguments of these, the spare room, too.
func spoil(l []api.WordFunction) {
	for i, f := range l[:cap(l)] {
		for j, w := range f.Code[:cap(f.Code)] {
			for k := range w.Args[:cap(w.Args)] {
				w.Args[:cap(w.Args)][k] = -77
			}
			f.Code[:cap(f.Code)][j] = api.Word{Kind: -77}
		}
		l[:cap(l)][i] = api.WordFunction{Name: "spoilt"}
	}
}

// R3, R4: answers have no memory in common, and empty lists are nil.
func TestShares(t *testing.T) {
	t.Parallel()
	a, b := Program(), Program()
	spoil(a.Funs)
	for i := range a.Data[:cap(a.Data)] {
		a.Data[:cap(a.Data)][i] = 77
	}
	if c := Program(); !reflect.DeepEqual(b, c) || word.Check(c) != api.OK {
		t.Error("Program's answers have something in common")
	}
	l := Functions(1)
	spoil(l)
	if !reflect.DeepEqual(Functions(1), b.Funs[1:]) {
		t.Error("answers of Functions have something in common")
	}
	for _, f := range Functions(5) {
		for _, w := range f.Code {
			if w.Args != nil && len(w.Args) == 0 {
				t.Error(f.Name, "has an empty list")
			}
		}
	}
	// each list of one answer by itself
	for i := range b.Funs {
		c := Program()
		f := c.Funs[i]
		spoil([]api.WordFunction{f})
		for j := range c.Funs {
			if i != j && !reflect.DeepEqual(c.Funs[j], b.Funs[j]) {
				t.Error(f.Name, "and", c.Funs[j].Name, "have something in common")
			}
		}
		for j := range b.Funs[i].Code {
			c := Program()
			code := c.Funs[i].Code
			args := code[j].Args
			for k := range args[:cap(args)] {
				args[:cap(args)][k] = -77
			}
			for k := range code {
				if j != k && !reflect.DeepEqual(code[k], b.Funs[i].Code[k]) {
					t.Error(b.Funs[i].Name, "has arguments twice")
				}
			}
		}
	}
}

// R4: calls from several hands at the same time.
func TestHands(t *testing.T) {
	t.Parallel()
	var all sync.WaitGroup
	want := Program()
	for range 8 {
		all.Go(func() {
			for range 50 {
				if !reflect.DeepEqual(Program(), want) || !reflect.DeepEqual(Functions(1), want.Funs[1:]) {
					t.Error("another program")
				}
			}
		})
	}
	all.Wait()
}
