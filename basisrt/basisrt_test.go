package basisrt

import (
	"encoding/binary"
	"fmt"
	"math"
	"reflect"
	"slices"
	"sync"
	"testing"

	"smithy/api"
	"smithy/bigrt"
	"smithy/build"
	"smithy/flow"
	"smithy/gcrt"
	"smithy/word"
	"smithy/world"
)

// How many functions of the collector's and of the integers' chapters have numbers.
const (
	collectors = 6
	ofIntegers = 14
)

// P17.1: names, parameters, numbers, whatever the first ones are, and wherever the data lies.
func TestFunctions(t *testing.T) {
	t.Parallel()
	numbers := []int{0, 1, 7, 1 << 20, 1 << 40, math.MaxInt, -1, -100, math.MinInt}
	for i, base := range numbers {
		for j, gc := range numbers {
			big, data := numbers[(i+j)%len(numbers)], 8*numbers[(i+2*j)%len(numbers)]
			l := Functions(base, gc, big, data)
			if len(l) < 37 {
				t.Fatal(base, gc, len(l))
			}
			for i, name := range order() {
				if l[i].Name != "do."+name || l[i].Params != 1 {
					t.Errorf("number %d: %s of %d", i, l[i].Name, l[i].Params)
				}
			}
			if l[36].Name != "fail" || l[36].Params != 0 {
				t.Errorf("number 36: %s of %d", l[36].Name, l[36].Params)
			}
			names := map[string]bool{}
			for _, f := range l {
				if names[f.Name] {
					t.Errorf("%s is there twice", f.Name)
				}
				names[f.Name] = true
			}
		}
	}
}

// P17.1: they call functions of the chapters' tables and their own, and name the cells and the data that are theirs.
func TestCalled(t *testing.T) {
	t.Parallel()
	const base, gc, big, data = 1000, 5000, 9000, 1 << 16
	l := Functions(base, gc, big, data)
	in := func(n, from, many int) bool { return n >= from && n < from+many }
	for _, f := range l {
		for _, w := range f.Code {
			switch w.Kind {
			case api.WordCall, api.WordTail, api.WordFunc:
				if !in(w.F, base, len(l)) && !in(w.F, gc, collectors) && !in(w.F, big, ofIntegers) {
					t.Errorf("%s calls %d", f.Name, w.F)
				}
			case api.WordData:
				if n := int(w.Imm); !in(n, 0, 256) && !in(n, data, len(Static())+1) {
					t.Errorf("%s names the place %d", f.Name, n)
				}
			case api.WordSys:
				if !slices.Contains([]int64{0, 1, 2, 3, 60}, w.Imm) {
					t.Errorf("%s does the system call %d", f.Name, w.Imm)
				}
			case api.WordApply, api.WordGo:
				t.Errorf("%s has an instruction of kind %d", f.Name, w.Kind)
			}
		}
	}
}

// others are n functions that have nothing to do with values: each answers a number.
func others(n int) []api.WordFunction {
	var out []api.WordFunction
	for i := range n {
		out = append(out, build.Function(fmt.Sprint("other", i), 0, func(b *build.Builder) { b.Ret(b.Const(int64(i))) }))
	}
	return out
}

// placed is a program, and where Static lies in its data.
type placed struct {
	program api.WordProgram
	static  int
}

// programs have others ahead of the functions, between, and behind them, in several orders; and data behind the cells.
func programs() []placed {
	var out []placed
	for i, ahead := range []int{1, 2, 700} {
		for j, between := range []int{0, 1, 90} {
			for k, more := range []int{0, 8, 4000} {
				many := []int{len(gcrt.Functions(0)), len(bigrt.Functions(0, 0)), len(Functions(0, 0, 0, 0))}
				var first [3]int // the numbers of the collector's, the integers' and these functions' first ones
				next := ahead
				turn := (i + j + k) % 3
				for n := range 3 {
					part := (n + turn) % 3
					first[part] = next
					next += many[part] + between
				}
				static := gcrt.Cells() + more
				parts := [3][]api.WordFunction{gcrt.Functions(first[0]), bigrt.Functions(first[1], first[0]), Functions(first[2], first[0], first[1], static)}
				l := others(ahead)
				for n := range 3 {
					l = slices.Concat(l, parts[(n+turn)%3], others(between))
				}
				data := slices.Concat(make([]byte, gcrt.Cells()), slices.Repeat([]byte{0x77}, more), Static(), slices.Repeat([]byte{0x99}, 8*i))
				out = append(out, placed{api.WordProgram{Funs: l, Data: data}, static})
			}
		}
	}
	return out
}

// P17.1: such programs may be, read nothing that isn't set, and do the same.
func TestPrograms(t *testing.T) {
	t.Parallel()
	for i, p := range programs() {
		if e := word.Check(p.program); e != api.OK || !word.Strict(p.program) {
			t.Fatalf("program %d: %v, strict %v", i, e, word.Strict(p.program))
		}
		b := benchOf(t, p.program, p.static, least, i%2 == 0)
		b.lines()
		for range 3 { // things move
			b.rows(many()[:8]...)
			b.rows(many()...)
			b.rows(row{"cat", v{some(3000), some(3000)}, short(some(3000) + some(3000))})
		}
	}
}

// P17.1: the bytes that they need of the data.
func TestStatic(t *testing.T) {
	t.Parallel()
	s := Static()
	if len(s) < 8 || len(s) > 2048 || len(s)%8 != 0 {
		t.Fatal(len(s), "bytes")
	}
	if head := binary.LittleEndian.Uint64(s); head != 1|api.HeapBlock<<1 {
		t.Errorf("begins with %#x", head)
	}
}

// P17.1: the numbers of all primitives of chapter 10, and of names that are none.
func TestNumber(t *testing.T) {
	t.Parallel()
	want := map[string]int{"add": 0, "sub": 1, "mul": 2, "div": 3, "mod": 4, "neg": 5, "lt": 6, "le": 7, "itext": 9, "rfromint": 10, "rfloor": 11, "rbits": 12}
	names := bigrt.Functions(0, 0)
	for prim, name := range map[string]string{"add": "int.add", "sub": "int.sub", "mul": "int.mul", "div": "int.div", "mod": "int.mod", "neg": "int.neg", "lt": "int.lt", "le": "int.le", "itext": "int.text", "rfromint": "int.real", "rfloor": "real.floor", "rbits": "real.bits"} {
		if names[want[prim]].Name != name {
			t.Error(prim, names[want[prim]].Name)
		}
	}
	own := map[string]int{}
	for i, name := range order() {
		own[name] = i
	}
	if len(want)+len(own) != len(flow.Prims()) {
		t.Error(len(flow.Prims()), "primitives")
	}
	for prim := range flow.Prims() {
		n, is := Number(prim)
		if i, mine := own[prim]; mine && (n != i || !is) || !mine && (n != want[prim] || is) {
			t.Error(prim, n, is)
		}
	}
	for _, prim := range []string{"", "cons", "do.cat", "fail", "do.", "int.add", "raise", "Cat", "cat ", " cat", "ca", "catt", "in.line", "unit", "int.same", "eq\x00"} {
		if n, is := Number(prim); n != -1 || is {
			t.Error(prim, n, is)
		}
	}
}

// P17.1: Program, in heaps of many sizes.
func TestProgram(t *testing.T) {
	t.Parallel()
	p, gc := Program(), gcrt.Functions(1)
	integers := bigrt.Functions(1+len(gc), 1)
	own := Functions(1+len(gc)+len(integers), 1, 1+len(gc), gcrt.Cells())
	if p.Funs[0].Name != "main" || !reflect.DeepEqual(p.Funs[1:], slices.Concat(gc, integers, own)) || !slices.Equal(p.Data, append(make([]byte, gcrt.Cells()), Static()...)) || p.Zero != 0 {
		t.Error("not as it should stand")
	}
	if word.Check(p) != api.OK || !word.Strict(p) {
		t.Error(word.Check(p), word.Strict(p))
	}
	for _, size := range []uint64{least, least + 1, 1 << 20, 1 << 24, api.MaxHeap} {
		for _, strict := range []bool{false, true} {
			w := world.New(api.World{Stdin: "x"})
			s, e := word.New(p, size, strict, w)
			if e != api.OK {
				t.Fatal(e)
			}
			if st := s.Run(10000); st != api.Exited || s.Code() != 0 || len(w.Trace()) != 0 {
				t.Errorf("heap %d, strict %v: %d, code %d", size, strict, st, s.Code())
			}
			if x, _ := s.Load(bottomCell, 8); x < heapBase || x >= heapBase+size {
				t.Error("gc.start wasn't called")
			}
		}
	}
}

// memory is what lists of answers lie in.
type memory struct {
	funs map[*api.WordFunction]bool
	code map[*api.Word]bool
	args map[*int]bool
	data map[*byte]bool
}

// own tells whether a list's memory, its spare room with it, is its own alone; an empty list has none.
func own[T any](known map[*T]bool, l []T) bool {
	fine := l == nil || len(l) > 0
	l = l[:cap(l)]
	for i := range l {
		fine = fine && !known[&l[i]]
		known[&l[i]] = true
	}
	return fine
}

func (m memory) take(l []api.WordFunction) bool {
	fine := own(m.funs, l)
	for _, f := range l {
		fine = own(m.code, f.Code) && fine
		for _, w := range f.Code {
			fine = own(m.args, w.Args) && fine
		}
	}
	return fine
}

// R3, R4: no list of an answer has memory in common with another one, of this or another answer.
func TestShares(t *testing.T) {
	t.Parallel()
	m := memory{map[*api.WordFunction]bool{}, map[*api.Word]bool{}, map[*int]bool{}, map[*byte]bool{}}
	var all []any // nothing that was answered may be given again
	for i := range 3 {
		p, l, s := Program(), Functions(7, 1, 5, 512), Static()
		all = append(all, p, l, s)
		if !m.take(p.Funs) || !own(m.data, p.Data) || !m.take(l) || !own(m.data, s) {
			t.Error("memory in common, answer", i)
		}
	}
	for i := range 3 {
		if !reflect.DeepEqual(all[i], all[6+i]) {
			t.Error("not the same answer twice")
		}
	}
}

// R4: calls from several hands at the same time.
func TestHands(t *testing.T) {
	t.Parallel()
	var all sync.WaitGroup
	want, funs := Program(), Functions(3, 9, 4, 512)
	for range 8 {
		all.Go(func() {
			for range 20 {
				if n, is := Number("vector"); !reflect.DeepEqual(Program(), want) || !reflect.DeepEqual(Functions(3, 9, 4, 512), funs) || n != 16 || !is {
					t.Error("another answer")
				}
			}
		})
	}
	all.Wait()
}
