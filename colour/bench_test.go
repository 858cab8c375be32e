package colour

import (
	"reflect"
	"slices"
	"testing"

	"smithy/api"
	"smithy/word"
	"smithy/world"
)

// theWorld is what programs meet.
func theWorld() api.World {
	return api.World{Stdin: "one\ntwo\nthree", Files: []api.File{{Name: "f", Data: "what is in f"}, {Name: "g", Data: ""}}}
}

// made is what comes of a program, which has to be coloured, and to have the functions and data that it had.
func made(t testing.TB, p api.WordProgram) api.WordProgram {
	t.Helper()
	q, e := Program(p)
	if e != api.OK {
		t.Fatalf("%v: %s", e, shown(p))
	}
	if e := Check(q); e != api.OK || len(q.Funs) != len(p.Funs) || string(q.Data) != string(p.Data) || q.Zero != p.Zero {
		t.Fatalf("%v, %d functions, %d bytes, %d of 0: %s became %s", e, len(q.Funs), len(q.Data), q.Zero, shown(p), shown(q))
	}
	for i, f := range q.Funs {
		if f.Name != p.Funs[i].Name || f.Params != p.Funs[i].Params || f.Regs > api.Colours {
			t.Fatalf("function %d: %q, %d parameters, %d registers: %s", i, f.Name, f.Params, f.Regs, shown(p))
		}
		for _, w := range f.Code {
			if !isTidy(w) {
				t.Fatalf("%+v: %s", w, shown(p))
			}
		}
	}
	return q
}

// isTidy tells whether an instruction has nothing but what its kind has.
func isTidy(w api.Word) bool {
	_, fields := form(w.Kind)
	for _, c := range fields {
		switch c {
		case 'D':
			w.D = 0
		case 'A':
			w.A = 0
		case 'B':
			w.B = 0
		case 'L':
			w.L = 0
		case 'F':
			w.F = 0
		case 'C':
			w.Cond = 0
		case 'R':
			w.Real = 0
		case 'S':
			w.Size = 0
		case 'i':
			w.Imm = 0
		case 'l':
			w.Args = nil
		}
	}
	w.Kind = 0
	return reflect.DeepEqual(w, api.Word{})
}

// wide is the document's K.
func wide(p api.WordProgram) int {
	k := 16
	for _, f := range p.Funs {
		k = max(k, f.Regs+f.Slots)
	}
	return k
}

// call is a call that is entered, with words that memory has; or the first one, if it has no name.
type call struct {
	name  string
	args  []uint64
	words [][2]uint64 // places and words
}

// running is a process in its world.
type running struct {
	*word.Process
	world *world.World
}

func begun(t testing.TB, p api.WordProgram, strict bool, c call, w api.World) running {
	t.Helper()
	r := running{world: world.New(w)}
	var e api.Errno
	if r.Process, e = word.New(p, api.MinHeap, strict, r.world); e != api.OK {
		t.Fatal(e)
	}
	for _, x := range c.words {
		if !r.Store(x[0], 8, x[1]) {
			t.Fatal("no memory at", x[0])
		}
	}
	if c.name != "" {
		if e := r.Enter(c.name, c.args); e != api.OK {
			t.Fatal(e)
		}
	}
	return r
}

// to does steps till so many are done.
func (r running) to(n int) int { return r.Run(n - r.Steps()) }

func (r running) over() bool {
	s := r.Run(0)
	return s == api.Exited || s == api.WordDone
}

func isBeginning(a, b []api.Event) bool {
	if len(a) > len(b) {
		return false
	}
	for i, x := range a {
		y := b[i]
		if i == len(a)-1 && len(x.Text) < len(y.Text) {
			y.Text = y.Text[:len(x.Text)]
		}
		if x != y {
			return false
		}
	}
	return true
}

// holdAlike holds what became of a program against it, behind all numbers of steps up to some, and behind more and more of them up to
// a most one. (Where K is great, fewer steps than K times as many are enough for what is made here, and take less time.) It tells how
// many steps the program has done, and how it stood then.
func holdAlike(t testing.TB, p, q api.WordProgram, c call, w api.World, all, most int) (int, int) {
	t.Helper()
	k := wide(p)
	a, slow, fast := begun(t, p, false, c, w), begun(t, q, true, c, w), begun(t, q, true, c, w)
	for n := 0; ; n = next(n, all) {
		n = min(n, most)
		status := a.to(n)
		if status == api.Stuck {
			return a.Steps(), status
		}
		slow.to(n)
		fast.to(min(k*n+1000, 8*n+300000))
		mine := a.world.Trace()
		if a.over() {
			if fast.Run(0) != status || fast.Code() != a.Code() || fast.Answer() != a.Answer() || !slices.Equal(mine, fast.world.Trace()) {
				t.Fatalf("behind %d steps %d, code %d, answer %d, %v; not %d, code %d, answer %d, %v behind %d: %s became %s", a.Steps(), status, a.Code(), a.Answer(), mine,
					fast.Run(0), fast.Code(), fast.Answer(), fast.world.Trace(), fast.Steps(), shown(p), shown(q))
			}
			holdMemory(t, p, a, fast)
			if fast.Steps() < a.Steps() {
				t.Fatalf("%d steps instead of %d: %s became %s", fast.Steps(), a.Steps(), shown(p), shown(q))
			}
			return a.Steps(), status
		}
		if !isBeginning(slow.world.Trace(), mine) || !isBeginning(mine, fast.world.Trace()) {
			t.Fatalf("behind %d steps %v, not %v, and behind %d (%d) %v: %s became %s", n, mine, slow.world.Trace(), fast.Steps(), fast.Run(0), fast.world.Trace(), shown(p), shown(q))
		}
		if n == most {
			return a.Steps(), status
		}
	}
}

func next(n, all int) int {
	if n < all {
		return n + 1
	}
	return n + n/3 + 1
}

// holdMemory holds the data and heaps of two processes against one another.
func holdMemory(t testing.TB, p api.WordProgram, a, b running) {
	t.Helper()
	for at := uint64(0); at < uint64(len(p.Data)+p.Zero); at++ {
		holdByte(t, a, b, api.DataBase+at, 1)
	}
	for at := uint64(0); at < api.MinHeap; at += 8 {
		holdByte(t, a, b, api.HeapBase+at, 8)
	}
}

func holdByte(t testing.TB, a, b running, at uint64, size int) {
	t.Helper()
	x, is := a.Load(at, size)
	y, too := b.Load(at, size)
	if !is || !too || x != y {
		t.Fatalf("at %x %x, not %x", at, y, x)
	}
}

// shown is a program as a text, or the beginning of that.
func shown(p api.WordProgram) string {
	if s := text(p); len(s) > 20000 {
		return s[:20000] + " .."
	}
	return text(p)
}
