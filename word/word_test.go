package word

import (
	"fmt"
	"os"
	"reflect"
	"runtime/debug"
	"slices"
	"sync"
	"testing"

	"smithy/api"
	"smithy/world"
)

func TestMain(m *testing.M) {
	debug.SetGCPercent(400)
	debug.SetMaxStack(64 << 20)
	os.Exit(m.Run())
}

// least is a heap that may be.
const least = uint64(api.MinHeap)

func plainWorld() api.World {
	return api.World{Stdin: "input\nmore", Files: []api.File{{Name: "f", Data: "bytes of f"}, {Name: "g", Data: ""}}}
}

// process is a process of a program that may be, in a world of its own.
func process(t *testing.T, p api.WordProgram, strict bool) (*Process, *world.World) {
	t.Helper()
	w := world.New(plainWorld())
	s, e := New(p, least, strict, w)
	if e != api.OK || s == nil {
		t.Fatalf("%v of\n%s", e, text(p))
	}
	return s, w
}

// both does something with a process that is strict, and with one that isn't.
func both(do func(strict bool)) {
	do(false)
	do(true)
}

// exits holds that a program ends with a code, behind so many steps, strict or not; with one step fewer it goes on.
func exits(t *testing.T, p api.WordProgram, code, steps int) {
	t.Helper()
	both(func(strict bool) {
		s, _ := process(t, p, strict)
		if st := s.Run(steps - 1); st != api.Running || s.Steps() != steps-1 || s.Code() != 0 {
			t.Errorf("with %d steps: %d, %d steps, code %d, of\n%s", steps-1, st, s.Steps(), s.Code(), text(p))
		}
		if st := s.Run(1); st != api.Exited || s.Steps() != steps || s.Code() != code || s.Answer() != 0 {
			t.Errorf("%d, %d steps, code %d, answer %d; wanted code %d, %d steps, of\n%s", st, s.Steps(), s.Code(), s.Answer(), code, steps, text(p))
		}
	})
}

// sticks holds that a program is stuck behind so many steps, strict or not, and that with just these it goes on.
func sticks(t *testing.T, p api.WordProgram, steps int) {
	t.Helper()
	both(func(strict bool) { sticksOne(t, p, strict, steps) })
}

func sticksOne(t *testing.T, p api.WordProgram, strict bool, steps int) {
	t.Helper()
	s, w := process(t, p, strict)
	if st := s.Run(steps); st != api.Running || s.Steps() != steps {
		t.Errorf("strict %v, %d steps: %d, %d steps, of\n%s", strict, steps, st, s.Steps(), text(p))
	}
	ahead := image(s, p)
	trace, files := w.Trace(), w.Files()
	for range 2 {
		if st := s.Run(5); st != api.Stuck || s.Steps() != steps || s.Code() != 0 || s.Answer() != 0 {
			t.Errorf("strict %v: %d, %d steps, code %d; wanted to be stuck behind %d, of\n%s", strict, st, s.Steps(), s.Code(), steps, text(p))
		}
	}
	if !reflect.DeepEqual(ahead, image(s, p)) || !reflect.DeepEqual(trace, w.Trace()) || !reflect.DeepEqual(files, w.Files()) {
		t.Errorf("what sticks has changed something, of\n%s", text(p))
	}
}

// image is the data, and the first and the last bytes of the heap.
func image(s *Process, p api.WordProgram) []uint64 {
	var out []uint64
	add := func(at uint64) {
		x, is := s.Load(at, 1)
		if !is {
			x = 256
		}
		out = append(out, x)
	}
	for i := range min(uint64(len(p.Data)+p.Zero), 300) {
		add(api.DataBase + i)
	}
	for i := range uint64(300) {
		add(api.HeapBase + i)
	}
	size := s.mem.heap.size
	for i := range uint64(40) {
		add(api.HeapBase + size - 1 - i)
	}
	return out
}

// oracleImage is that of an oracle.
func oracleImage(o *oracle) []uint64 {
	var out []uint64
	add := func(at uint64) { out = append(out, uint64(o.mem[at])) }
	for i := range min(uint64(len(o.p.Data)+o.p.Zero), 300) {
		add(api.DataBase + i)
	}
	for i := range uint64(300) {
		add(api.HeapBase + i)
	}
	for i := range uint64(40) {
		add(api.HeapBase + o.heap - 1 - i)
	}
	return out
}

// alike tells where a process and an oracle stand otherwise, each in a world of its own.
func alike(s *Process, w *world.World, o *oracle) string {
	st := s.Run(0)
	switch {
	case st != o.status || s.Steps() != o.steps || s.Code() != o.code || s.Answer() != o.answer:
		return fmt.Sprintf("stands %d, %d steps, code %d, answer %d; wanted %d, %d, %d, %d", st, s.Steps(), s.Code(), s.Answer(), o.status, o.steps, o.code, o.answer)
	case !reflect.DeepEqual(w.Trace(), o.world.Trace()):
		return fmt.Sprintf("trace %v, wanted %v", w.Trace(), o.world.Trace())
	case !reflect.DeepEqual(w.Files(), o.world.Files()):
		return fmt.Sprintf("files %v, wanted %v", w.Files(), o.world.Files())
	case w.Copy().Line() != o.world.Copy().Line():
		return "another place in the input"
	case !slices.Equal(image(s, o.p), oracleImage(o)):
		return "memory is another one"
	}
	return ""
}

// hands shares numbers from 0 on between some goroutines.
func hands(n int, do func(i int)) {
	var wait sync.WaitGroup
	next := make(chan int)
	for range 8 {
		wait.Go(func() {
			for i := range next {
				do(i)
			}
		})
	}
	for i := range n {
		next <- i
	}
	close(next)
	wait.Wait()
}

// changed is a copy of a program that has nothing in common with it.
func copied(p api.WordProgram) api.WordProgram {
	out := api.WordProgram{Data: slices.Clone(p.Data), Zero: p.Zero, Funs: slices.Clone(p.Funs)}
	for i := range out.Funs {
		l := slices.Clone(out.Funs[i].Code)
		for j := range l {
			l[j].Args = slices.Clone(l[j].Args)
		}
		out.Funs[i].Code = l
	}
	return out
}

// The document's examples.
func TestExamples(t *testing.T) {
	exits(t, single("const 0 5; const 1 7; sub 2 0 1; ret 2"), 254, 4)
	sticks(t, single("ret 0"), 0)
	if Strict(single("ret 0")) {
		t.Error("strict")
	}
	p := program("main 0 2 0: const 0 1; call 1 f; ret 0\n f 0 1 0: const 0 3; ret 0")
	sticksOne(t, p, true, 4)
	s, _ := process(t, p, false)
	if s.Run(5) != api.Exited || s.Code() != 1 || Strict(p) {
		t.Error("not strict", s.Code())
	}
	s, _ = process(t, single("label 1; jump 1"), true)
	if s.Run(10) != api.Running || s.Steps() != 10 {
		t.Error("a loop", s.Steps())
	}
	p = program("main 0 2 0: const 0 268435456; load 1 0 0 8; ret 1")
	p.Data = []byte{1, 0, 0, 0, 0, 0, 0, 0}
	exits(t, p, 1, 3)
	p.Data = p.Data[:7]
	sticks(t, p, 1)
}
