package word

import (
	"math"
	"reflect"
	"testing"

	"smithy/api"
	"smithy/world"
)

// P13.3: the errors of New, and which comes first.
func TestNewErrors(t *testing.T) {
	good, bad := program("main 0 1 0: const 0 1; ret 0"), program("main 0 1 0: const 1 1; ret 0")
	w := world.New(plainWorld())
	for _, r := range []struct {
		p    api.WordProgram
		heap uint64
		w    *world.World
		want api.Errno
	}{
		{good, api.MinHeap, w, api.OK}, {good, api.MinHeap - 1, w, api.ErrArg}, {good, api.MinHeap + 1, w, api.OK}, {good, api.MaxHeap, w, api.OK}, {good, api.MaxHeap - 1, w, api.OK},
		{good, api.MaxHeap + 1, w, api.ErrArg}, {good, 0, w, api.ErrArg}, {good, 1, w, api.ErrArg}, {good, math.MaxUint64, w, api.ErrArg}, {good, 1 << 63, w, api.ErrArg},
		{good, 1<<32 + 1, w, api.OK}, {good, api.MinHeap, nil, api.ErrArg}, {good, 0, nil, api.ErrArg}, {bad, api.MinHeap, w, api.ErrWordForm}, {bad, 0, w, api.ErrWordForm},
		{bad, api.MinHeap, nil, api.ErrWordForm}, {bad, 0, nil, api.ErrWordForm}, {api.WordProgram{}, api.MinHeap, w, api.ErrWordForm}, {api.WordProgram{}, 0, nil, api.ErrWordForm},
	} {
		both(func(strict bool) {
			s, e := New(r.p, r.heap, strict, r.w)
			if e != r.want || (s == nil) != (e != api.OK) {
				t.Errorf("heap %d: %v, wanted %v", r.heap, e, r.want)
			}
			if s != nil && (s.Run(0) != api.Running || s.Steps() != 0 || s.Code() != 0 || s.Answer() != 0 || s.Run(2) != api.Exited || s.Code() != 1) {
				t.Error("it doesn't begin with its first function")
			}
		})
	}
	if len(w.Trace()) != 0 {
		t.Error(w.Trace())
	}
}

// P13.3: the errors of Enter, functions of one name, and that an error changes nothing.
func TestEnterErrors(t *testing.T) {
	p := program("main 0 1 0: const 0 1; ret 0\nf 1 1 0: ret 0\nf 2 2 0: ret 1\ng 0 1 0: const 0 9; ret 0\ng 0 1 0: const 0 8; ret 0\nx 4 4 0: ret 3")
	p.Funs = append(p.Funs, api.WordFunction{Name: "", Params: 1, Regs: 2, Code: code1("const 1 3; add 0 0 1; ret 0")})
	both(func(strict bool) {
		s, _ := process(t, p, strict)
		fails := func(name string, args []uint64, want api.Errno) {
			t.Helper()
			st, code, answer, steps := s.Run(0), s.Code(), s.Answer(), s.Steps()
			if e := s.Enter(name, args); e != want {
				t.Errorf("%s: %v, wanted %v", name, e, want)
			}
			if s.Run(0) != st || s.Code() != code || s.Answer() != answer || s.Steps() != steps {
				t.Errorf("%s: an error has changed something", name)
			}
		}
		all := func() {
			t.Helper()
			for _, name := range []string{"h", "F", "mai", "main ", "ff", "\x00"} {
				fails(name, nil, api.ErrWordFunc)
				fails(name, make([]uint64, 1), api.ErrWordFunc)
				fails(name, make([]uint64, 9), api.ErrWordFunc)
			}
			fails("main", make([]uint64, 1), api.ErrArg)
			fails("f", nil, api.ErrArg)
			fails("f", make([]uint64, 2), api.ErrArg) // the second f would take two
			fails("f", make([]uint64, 1000), api.ErrArg)
			fails("x", make([]uint64, 3), api.ErrArg)
			fails("x", make([]uint64, 5), api.ErrArg)
			fails("", nil, api.ErrArg)
		}
		enters := func(name string, want uint64, args ...uint64) {
			t.Helper()
			n := s.Steps()
			if e := s.Enter(name, args); e != api.OK || s.Run(0) != api.Running || s.Steps() != n {
				t.Errorf("%s: %v", name, e)
			}
			if st := s.Run(9); st != api.WordDone || s.Answer() != want {
				t.Errorf("%s: %d, %d, wanted %d", name, st, s.Answer(), want)
			}
		}
		all()
		s.Run(1)
		all()
		s.Run(1)
		all()
		if s.Run(1) != api.Exited || s.Code() != 1 {
			t.Error(s.Code())
		}
		enters("f", 77, 77)
		all()
		enters("g", 9)
		enters("main", 1)
		enters("x", 4, 1, 2, 3, 4)
		enters("", 8, 5)
		s.Enter("f", []uint64{3})
		all()
		if s.Run(1) != api.WordDone || s.Answer() != 3 {
			t.Error(s.Answer())
		}
	})
}

// P13.3: a call that is entered is all that is open, however the process stands: going on, deep in calls, at its end, done, stuck. Memory,
// world and steps stay.
func TestEnterAnytime(t *testing.T) {
	p := program("main 0 4 1: const 0 5; put 0 0; const 1 1; data 2 0; store 2 0 0 8; sys 3 1 1 2 1; call 3 deep 0; ret 3\n" +
		"deep 1 4 1: put 0 0; const 1 1; sub 1 0 1; const 2 0; branch 0 2 eq 1; call 3 deep 1; get 0 0; add 0 0 3; ret 0; label 1; ret 0\n" +
		"look 0 2 1: data 0 0; load 0 0 0 8; ret 0\nunset 0 2 1: ret 1\nslot 0 2 1: get 0 0; ret 0\nend 0 1 0: const 0 3; sys 0 60 0; ret 0")
	p.Zero = 8
	both(func(strict bool) {
		for n := range 70 {
			s, w := process(t, p, strict)
			st := s.Run(n)
			steps, code := s.Steps(), s.Code()
			if (st == api.Exited) != (n >= 59) || st == api.Exited && code != 15 || steps != min(n, 59) {
				t.Fatal(n, st, code, steps)
			}
			want := uint64(0)
			if n >= 5 {
				want = 5
			}
			if s.Enter("look", nil) != api.OK || s.Run(9) != api.WordDone || s.Answer() != want || s.Steps() != steps+3 {
				t.Error(n, s.Answer(), s.Steps())
			}
			for _, name := range []string{"unset", "slot"} {
				if s.Enter(name, nil) != api.OK || s.Run(9) != api.Stuck || s.Steps() != steps+3 {
					t.Error(n, name)
				}
			}
			if s.Enter("deep", []uint64{3}) != api.OK || s.Run(99) != api.WordDone || s.Answer() != 6 {
				t.Error(n, s.Answer())
			}
			if s.Enter("end", nil) != api.OK || s.Run(9) != api.Exited || s.Code() != 3 || s.Answer() != 0 {
				t.Error(n, s.Code())
			}
			if s.Enter("main", nil) != api.OK || s.Run(99) != api.WordDone || s.Answer() != 15 || s.Code() != 0 {
				t.Error(n, s.Answer())
			}
			text := "\x05"
			if n >= 6 {
				text = "\x05\x05"
			}
			if got := w.Trace(); len(got) != 1 || got[0].Text != text {
				t.Error(n, got)
			}
		}
	})
}

// R3: what is handed in is not written, and what becomes of it behind the call changes nothing.
func TestHandedIn(t *testing.T) {
	hands(300, func(i int) {
		p, r := randomProgram(uint64(500000 + i))
		again := copied(p)
		strict := r.IntN(2) == 0
		Check(p)
		Strict(p)
		s, w := process(t, p, strict)
		u, v := process(t, again, strict)
		s.Run(10)
		u.Run(10)
		if !reflect.DeepEqual(p, again) {
			t.Error("what is handed in was written")
		}
		spoil(p)
		s.Run(40)
		u.Run(40)
		o := newOracle(again, least, strict, world.New(plainWorld()))
		o.run(50)
		for _, why := range []string{alike(s, w, o), alike(u, v, o)} {
			if why != "" {
				t.Errorf("%s, of\n%s", why, text(again))
			}
		}
	})
	p := program("main 0 1 0: const 0 1; ret 0\nf 4 4 0: add 0 0 1; ret 0")
	s, _ := process(t, p, true)
	args := []uint64{3, 4, 5, 6}
	s.Enter("f", args)
	clear(args)
	if s.Run(9) != api.WordDone || s.Answer() != 7 {
		t.Error(s.Answer())
	}
	args = []uint64{1, 2, 3, 4, 99}
	s.Enter("f", args[:4])
	if s.Run(9); !reflect.DeepEqual(args, []uint64{1, 2, 3, 4, 99}) || s.Answer() != 3 {
		t.Error(args, s.Answer())
	}
}

// spoil writes over all of a program.
func spoil(p api.WordProgram) {
	for i := range p.Data {
		p.Data[i] ^= 0x55
	}
	for i, f := range p.Funs {
		for j := range f.Code {
			for k := range f.Code[j].Args {
				f.Code[j].Args[k] = -7
			}
			f.Code[j] = api.Word{Kind: 99}
		}
		p.Funs[i] = api.WordFunction{Name: "spoilt"}
	}
}

// R3, R4: two processes have nothing in common but what they are given.
func TestApart(t *testing.T) {
	p := program("main 0 3 1: data 0 0; const 1 9; store 0 1 0 8; put 1 0; get 2 0; ret 2\nlook 0 1 0: data 0 0; load 0 0 0 8; ret 0")
	p.Data = []byte{1, 0, 0, 0, 0, 0, 0, 0}
	s, v := process(t, p, true)
	u, _ := New(p, least, true, v)
	s.Run(9)
	s.Store(api.HeapBase, 8, 5)
	if x, _ := u.Load(api.HeapBase, 8); x != 0 || u.Steps() != 0 || u.Run(0) != api.Running || p.Data[0] != 1 {
		t.Error(x)
	}
	u.Enter("look", nil)
	if u.Run(9) != api.WordDone || u.Answer() != 1 || s.Code() != 9 || s.Answer() != 0 {
		t.Error(u.Answer())
	}
	p, _ = randomProgram(77)
	done := make([]int, 64)
	hands(64, func(i int) {
		s, _ := New(p, least, i%2 == 0, world.New(plainWorld()))
		s.Run(100)
		done[i] = s.Steps()
		Strict(p)
		Check(p)
	})
	for i := range done {
		if done[i] != done[i%2] {
			t.Error(done)
		}
	}
}

// R1: a process that New has not made, and what is no process.
func TestNoProcess(t *testing.T) {
	for _, s := range []*Process{nil, {}} {
		for _, fuel := range []int{-1, 0, 1, 100} {
			s.Run(fuel)
		}
		if s.Answer() != 0 || s.Code() != 0 || s.Steps() != 0 || s.Store(api.HeapBase, 8, 1) || s.Enter("main", nil) == api.OK || s.Enter("", nil) == api.OK {
			t.Error("of no process")
		}
		for _, at := range []uint64{0, 1, api.DataBase, api.HeapBase, math.MaxUint64} {
			for _, size := range []int{0, 1, 4, 8} {
				if x, is := s.Load(at, size); x != 0 || is || s.Store(at, size, 1) {
					t.Error(at, size)
				}
			}
		}
	}
	w := &world.World{}
	s, e := New(single("const 0 1; data 1 0; const 2 3; sys 3 1 0 1 2; sys 3 0 0 1 2; sys 3 2 1; sys 3 3 0; ret 3"), least, true, w)
	if e != api.OK || s.Run(9) == api.Running {
		t.Error(e)
	}
}

// P13.5: each size, others, the edges of memory, between runs and behind the end.
func TestLoadStore(t *testing.T) {
	p := program("main 0 2 0: data 0 0; load 1 0 3 8; store 0 1 20 4; ret 1")
	p.Data, p.Zero = []byte{1, 2, 3, 4, 5, 6, 7, 8, 9}, 21
	both(func(strict bool) {
		s, _ := process(t, p, strict)
		load := func(at uint64, size int, want uint64, there bool) {
			t.Helper()
			if x, is := s.Load(at, size); x != want || is != there {
				t.Errorf("%d bytes at %#x: %#x, %v", size, at, x, is)
			}
		}
		store := func(at uint64, size int, x uint64, there bool) {
			t.Helper()
			if s.Store(at, size, x) != there {
				t.Errorf("%d bytes at %#x", size, at)
			}
		}
		load(api.DataBase, 1, 1, true)
		load(api.DataBase, 4, 0x04030201, true)
		load(api.DataBase, 8, 0x0807060504030201, true)
		load(api.DataBase+2, 8, 0x0009080706050403, true)
		for _, size := range []int{0, 2, 3, 5, 6, 7, 9, 16, -1, -8, 64, math.MinInt, math.MaxInt, 1<<32 + 1} {
			load(api.DataBase, size, 0, false)
			store(api.DataBase, size, 5, false)
			load(0, size, 0, false)
		}
		end := uint64(api.DataBase + 30)
		for _, size := range []int{1, 4, 8} {
			n := uint64(size)
			for _, edge := range []uint64{end, heapN} {
				store(edge-n, size, math.MaxUint64, true)
				load(edge-n, size, math.MaxUint64>>(64-8*n), true)
				for d := range n {
					store(edge-d, size, 0, false)
					load(edge-d, size, 0, false)
				}
				store(edge-n, size, 0, true)
			}
			for _, edge := range []uint64{api.DataBase, heap0} {
				for d := range n {
					store(edge-1-d, size, 7, false)
					load(edge-1-d, size, 0, false)
				}
			}
			for d := range uint64(10) {
				load(math.MaxUint64-d, size, 0, false)
				store(math.MaxUint64-d, size, 0, false)
				load(d, size, 0, false)
			}
		}
		load(api.DataBase, 8, 0x0807060504030201, true)
		s.Run(1)
		store(api.DataBase+3, 4, 0xffffffff12345678, true)
		load(api.DataBase, 8, 0x0812345678030201, true)
		s.Run(2)
		load(api.DataBase+20, 8, 0x12345678, true)
		store(api.DataBase+20, 1, 0xfff, true)
		if s.Run(2) != api.Exited || s.Code() != 0x78 || s.Steps() != 4 {
			t.Error(s.Code(), s.Steps())
		}
		load(api.DataBase+20, 4, 0x123456ff, true)
		store(heap0, 8, 0x1020304050607080, true)
		load(heap0+1, 4, 0x40506070, true)
		load(heap0+7, 1, 0x10, true)
		if s.Run(5) != api.Exited || s.Steps() != 4 {
			t.Error(s.Steps())
		}
	})
	s, _ := process(t, single("load 0 1 0 1; ret 0"), true)
	s.Run(5)
	if !s.Store(heap0, 8, 5) || s.Run(5) != api.Stuck {
		t.Error("stuck")
	}
	if x, is := s.Load(heap0, 4); x != 5 || !is {
		t.Error(x, is)
	}
}

// All of a heap: each byte is one of its own.
func TestWholeHeap(t *testing.T) {
	s, _ := process(t, single("const 0 1; ret 0"), true)
	for i := range uint64(api.MinHeap) {
		if !s.Store(heap0+i, 1, i*i*7+i>>8) {
			t.Fatal(i)
		}
	}
	for i := range uint64(api.MinHeap) {
		if x, is := s.Load(heap0+i, 1); !is || x != uint64(uint8(i*i*7+i>>8)) {
			t.Fatal(i, x, is)
		}
	}
}

// A heap that is greater than what of it is ever set.
func TestGreatHeap(t *testing.T) {
	s, e := New(program("main 0 1 0: const 0 1; ret 0"), api.MaxHeap, true, world.New(api.World{}))
	if e != api.OK {
		t.Fatal(e)
	}
	const step = 1<<24 + 1<<10 + 3
	for at := uint64(0); at+8 <= api.MaxHeap; at += step {
		if !s.Store(api.HeapBase+at, 8, at+1) {
			t.Fatal(at)
		}
	}
	for at := uint64(0); at+16 <= api.MaxHeap; at += step {
		if x, is := s.Load(api.HeapBase+at, 8); x != at+1 || !is {
			t.Fatal(at, x, is)
		}
		if x, is := s.Load(api.HeapBase+at+8, 8); x != 0 || !is {
			t.Fatal(at, x, is)
		}
	}
	last := uint64(api.HeapBase + api.MaxHeap)
	if !s.Store(last-8, 8, 3) || s.Store(last-7, 8, 3) || s.Store(last, 1, 3) {
		t.Error("the last bytes")
	}
}

// Nothing hangs on what a leaf or a page was used for ahead: calls of many shapes, one behind the other.
func TestUsedAgain(t *testing.T) {
	p := program("main 0 1 0: const 0 1; ret 0\nfill 1 4096 4096: move 1 0; move 31 0; move 32 0; move 40 0; move 4000 0; put 0 0; put 0 31; put 0 33; put 0 4000; ret 4000\n" +
		"r1 0 4096 4096: ret 1\nr31 0 4096 4096: ret 31\nr32 0 4096 4096: const 33 1; ret 32\nr40 0 4096 4096: ret 40\nr4000 0 4096 4096: const 4001 1; ret 4000\n" +
		"s0 0 4096 4096: get 0 0; ret 0\ns31 0 4096 4096: const 0 1; put 0 30; get 0 31; ret 0\ns33 0 4096 4096: const 0 1; put 0 32; get 0 33; ret 0\ns4000 0 4096 4096: const 0 1; put 0 3999; get 0 4000; ret 0\n" +
		"inner 1 2 1: put 0 0; call 1 fill 0; get 0 0; add 0 0 1; ret 0")
	both(func(strict bool) {
		s, _ := process(t, p, strict)
		for range 3 {
			for _, f := range p.Funs[2:11] {
				s.Enter("fill", []uint64{9})
				if s.Run(99) != api.WordDone || s.Answer() != 9 {
					t.Error("fill", s.Answer())
				}
				if s.Enter(f.Name, nil); s.Run(99) != api.Stuck {
					t.Error(f.Name)
				}
				s.Enter("inner", []uint64{9})
				if s.Run(99) != api.WordDone || s.Answer() != 18 {
					t.Error("inner", s.Answer())
				}
			}
		}
	})
}
