package word

import (
	"fmt"
	"math"
	"reflect"
	"strings"
	"testing"

	"smithy/api"
	"smithy/world"
)

// asker is a process whose function `sys` does a system call of three arguments; memory is laid from the heap's beginning on.
type asker struct {
	t *testing.T
	s *Process
	w *world.World
}

func newAsker(t *testing.T, w api.World) *asker {
	t.Helper()
	text := "main 0 1 0: const 0 1; ret 0\n"
	for n := range 5 {
		text += fmt.Sprintf("sys%d 3 4 0: sys 3 %d 0 1 2; ret 3\n", n, n)
	}
	a := &asker{t: t, w: world.New(w)}
	s, e := New(program(text), least, true, a.w)
	if e != api.OK {
		t.Fatal(e)
	}
	a.s = s
	return a
}

func (a *asker) lay(at uint64, text string) {
	for i := range len(text) {
		if !a.s.Store(at+uint64(i), 1, uint64(text[i])) {
			a.t.Fatal("no memory there")
		}
	}
}

func (a *asker) look(at uint64, n int) string {
	var out []byte
	for i := range n {
		x, is := a.s.Load(at+uint64(i), 1)
		if !is {
			a.t.Fatal("no memory there")
		}
		out = append(out, byte(x))
	}
	return string(out)
}

// asks holds what a system call answers.
func (a *asker) asks(want int64, number int, x, y, z uint64) {
	a.t.Helper()
	a.s.Enter(fmt.Sprint("sys", number), []uint64{x, y, z})
	n := a.s.Steps()
	if st := a.s.Run(2); st != api.WordDone || int64(a.s.Answer()) != want || a.s.Steps() != n+2 {
		a.t.Errorf("system call %d of %#x, %#x, %#x: %d, %d, wanted %d", number, x, y, z, st, int64(a.s.Answer()), want)
	}
}

const (
	heap0 = uint64(api.HeapBase)
	heapN = uint64(api.HeapBase + api.MinHeap)
)

// P13.4: the system call 0.
func TestSysRead(t *testing.T) {
	a := newAsker(t, plainWorld())
	a.lay(heap0, "0123456789")
	a.asks(3, 0, 0, heap0+2, 3)
	if got := a.look(heap0, 10); got != "01inp56789" {
		t.Error(got)
	}
	a.asks(0, 0, 0, heap0, 0)
	a.asks(0, 0, 0, 5, 0) // no byte of none isn't there
	a.asks(-9, 0, 1, heap0, 3)
	a.asks(-9, 0, 7, heap0, 3)
	a.asks(-9, 0, math.MaxUint64, heap0, 3)
	a.asks(-9, 0, 1<<32, heap0, 3)
	a.asks(-14, 0, 0, 5, 1)
	a.asks(-14, 0, 9, 5, 1) // the world isn't asked
	a.asks(-14, 0, 0, heapN-2, 3)
	a.asks(-14, 0, 0, heapN, 1)
	a.asks(-14, 0, 0, heap0-1, 3)
	a.asks(-14, 0, 0, heap0, api.MinHeap+1)
	a.asks(-14, 0, 0, math.MaxUint64, 1)
	a.asks(-14, 0, 0, math.MaxUint64, 2)
	a.asks(-14, 0, 0, heap0, 1<<31)
	a.asks(-22, 0, 0, heap0, 1<<31+1)
	a.asks(-22, 0, 0, 5, 1<<31+1)
	a.asks(-22, 0, 9, 5, math.MaxUint64)
	if got := a.look(heap0, 10); got != "01inp56789" || a.w.Copy().Line() != "ut\n" {
		t.Error(got)
	}
	a.asks(7, 0, 0, heapN-7, 7)
	if got := a.look(heapN-8, 8); got != "\x00ut\nmore" {
		t.Errorf("%q", got)
	}
	a.asks(0, 0, 0, heap0, api.MinHeap)
	if got := a.look(heap0, 10); got != "01inp56789" {
		t.Error(got)
	}
	if len(a.w.Trace()) != 0 {
		t.Error(a.w.Trace())
	}
	exits(t, single("const 0 0; data 1 4; const 2 3; sys 3 0 0 1 2; load 4 1 2 1; ret 4"), 'p', 6)
	exits(t, single("sys 0 0; ret 0"), 0, 2)
	exits(t, single("const 0 1; sys 0 0 0; ret 0"), 256-9, 3)
}

// P13.4: the system call 1.
func TestSysWrite(t *testing.T) {
	a := newAsker(t, plainWorld())
	a.lay(heap0, "some text\x00\xff and more")
	a.lay(heapN-3, "end")
	a.asks(5, 1, 1, heap0+2, 5)
	a.asks(2, 1, 1, heap0+9, 2)
	a.asks(3, 1, 2, heapN-3, 3)
	a.asks(0, 1, 1, heap0, 0)
	a.asks(0, 1, 1, 5, 0)
	a.asks(-9, 1, 0, heap0, 3)
	a.asks(-9, 1, 3, heap0, 3)
	a.asks(-9, 1, 3, 5, 0)
	a.asks(-9, 1, math.MaxUint64, heap0, 3)
	a.asks(-14, 1, 1, 5, 1)
	a.asks(-14, 1, 3, 5, 1)
	a.asks(-14, 1, 1, heapN-3, 4)
	a.asks(-14, 1, 1, heap0-1, 1)
	a.asks(-14, 1, 1, heap0, 1<<31)
	a.asks(-14, 1, 1, math.MaxUint64, 1)
	a.asks(-14, 1, 1, math.MaxUint64-1, 1<<31)
	a.asks(-22, 1, 1, heap0, 1<<31+1)
	a.asks(-22, 1, 3, 5, math.MaxUint64)
	want := []api.Event{{Kind: api.EventOut, Text: "me te\x00\xff"}, {Kind: api.EventErr, Text: "end"}}
	if got := a.w.Trace(); !reflect.DeepEqual(got, want) {
		t.Errorf("%+v", got)
	}
	a.asks(api.MinHeap, 1, 2, heap0, api.MinHeap)
	if got := a.w.Trace()[1].Text; len(got) != 3+api.MinHeap || got[3:7] != "some" || !strings.HasSuffix(got, "\x00end") {
		t.Error(len(got))
	}
	if got := a.look(heap0, 9); got != "some text" {
		t.Error(got)
	}
}

// P13.4: just 2^31 bytes.
func TestSysMost(t *testing.T) {
	w := world.New(plainWorld())
	s, e := New(program("main 0 4 0: const 0 9; heap 1; const 2 0x40000000; const 3 0x80000000; sys 1 1 0 2 3; const 0 0; sys 0 0 0 2 3; add 0 0 1; ret 0"), 1<<31, true, w)
	if e != api.OK || s.Run(9) != api.Exited || s.Code() != 10-9 {
		t.Error(e, s.Code())
	}
	if x, _ := s.Load(heap0, 8); x != 0x6f6d0a7475706e69 || len(w.Trace()) != 0 || w.Line() != "" {
		t.Errorf("%#x", x)
	}
}

// P13.4: the system calls 2 and 3.
func TestSysOpenClose(t *testing.T) {
	a := newAsker(t, plainWorld())
	a.lay(heap0, "f\x00none\x00new\x00\x00")
	a.asks(3, 2, heap0, 0, 99)
	a.asks(6, 0, 3, heap0+100, 6)
	if got := a.look(heap0+100, 7); got != "bytes \x00" {
		t.Errorf("%q", got)
	}
	a.asks(-2, 2, heap0+2, 0, 0)
	a.asks(-2, 2, heap0+11, 0, 0)
	a.asks(-2, 2, heap0+1, 577, 0)
	a.asks(-22, 2, heap0, 1, 0)
	a.asks(-22, 2, heap0, 1<<32, 0)
	a.asks(-22, 2, heap0, 1<<32+577, 0)
	a.asks(-22, 2, heap0, math.MaxUint64, 0)
	a.asks(4, 2, heap0+7, 577, 0)
	a.asks(3, 1, 4, heap0+2, 3)
	a.asks(2, 1, 4, heap0, 2)
	a.asks(0, 3, 3, 1, 2)
	a.asks(-9, 3, 3, 1, 2)
	a.asks(-9, 3, 77, 1, 2)
	a.asks(-9, 3, math.MaxUint64, 1, 2)
	a.asks(-9, 3, 1<<32+4, 1, 2)
	a.asks(0, 3, 4, 0, 0)
	a.asks(0, 3, 1, 0, 0)
	a.asks(-9, 1, 1, heap0, 1)
	want := []api.Event{{Kind: api.EventWrite, Name: "new", Text: "nonf\x00"}}
	if got := a.w.Trace(); !reflect.DeepEqual(got, want) {
		t.Errorf("%+v", got)
	}
	// all descriptors
	for fd := range 17 {
		want := []int64{1, 3, 4, 5, 6, 7, 8, 9, 10, 11, 12, 13, 14, 15, 16, 17, 18}[fd]
		a.asks(want, 2, heap0, 0, 0)
	}
	a.asks(-24, 2, heap0, 0, 0)
	if x, y := a.w.Trace(), a.w.Files(); len(x) != 1 || len(y) != 3 {
		t.Error(x, y)
	}
}

// P13.4: names without an end, too long, just long enough, at the end of memory.
func TestSysNames(t *testing.T) {
	for _, n := range []int{1, 254, 255, 256, 257} {
		name := strings.Repeat("x", n)
		a := newAsker(t, api.World{Files: []api.File{{Name: strings.Repeat("x", min(n, 255)), Data: "1"}}})
		a.lay(heap0, name)
		want := int64(3)
		if n > 255 {
			want = -36
		}
		a.asks(want, 2, heap0, 0, 0)
		a.lay(heapN-uint64(n)-1, name+"\x00")
		if n <= 255 {
			want = 4
		}
		a.asks(want, 2, heapN-uint64(n)-1, 0, 0)
		a.lay(heapN-uint64(n), name)
		want = -14
		if n > 255 {
			want = -36
		}
		a.asks(want, 2, heapN-uint64(n), 0, 0)
		a.asks(want, 2, heapN-uint64(n), 5, 0)
	}
	a := newAsker(t, plainWorld())
	for _, at := range []uint64{0, 5, api.CodeBase, heap0 - 1, heapN, math.MaxUint64, api.DataBase} {
		a.asks(-14, 2, at, 0, 0)
		a.asks(-14, 2, at, 77, 0)
	}
	if len(a.w.Trace()) != 0 {
		t.Error(a.w.Trace())
	}
}

// P13.4: fewer arguments are 0; unknown numbers stick.
func TestSysOthers(t *testing.T) {
	exits(t, single("const 0 0; data 1 0; sys 2 0 0 1; ret 2"), 0, 4)
	exits(t, single("const 0 1; data 1 0; sys 2 1 0 1; ret 2"), 0, 4)
	exits(t, single("sys 2 2; ret 2"), 256-14, 2)
	exits(t, single("sys 2 3; ret 2"), 0, 2)
	p := single("data 0 0; sys 2 2 0; ret 2")
	p.Data = []byte("f\x00")
	exits(t, p, 3, 3)
	for _, n := range []int64{4, 5, 59, 61, -1, 256, 316, 1 << 32, 1<<32 + 60, math.MinInt64, math.MaxInt64} {
		sticks(t, single(fmt.Sprintf("const 0 1; sys 1 %d 0 0 0; ret 0", n)), 1)
		sticks(t, single(fmt.Sprintf("sys 1 %d; const 0 1; ret 0", n)), 0)
	}
	// what is read is all of Args, whatever the call
	sticks(t, single("const 0 1; sys 1 3 0 0 7; ret 0"), 1)
	sticks(t, single("const 0 1; sys 1 3 0 7; ret 0"), 1)
	sticks(t, single("const 0 1; sys 1 3 7; ret 0"), 1)
}

// P13.4: the world is the one that was handed in, not a copy.
func TestWorldItself(t *testing.T) {
	p := single("const 0 1; data 1 0; const 2 2; sys 3 1 0 1 2; const 0 0; sys 3 0 0 1 2; label 1; jump 1")
	p.Data = []byte("ab")
	w := world.New(plainWorld())
	w.Out("ahead,")
	w.Line()
	s, _ := New(p, least, true, w)
	if s.Run(4); len(w.Trace()) != 1 || w.Trace()[0].Text != "ahead,ab" {
		t.Error(w.Trace())
	}
	w.Out("!")
	s.Run(5)
	if x, _ := s.Load(api.DataBase, 4); x != 'm'+256*'o' || w.Line() != "re" {
		t.Errorf("%#x", x)
	}
}
