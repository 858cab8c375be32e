package basisrt

import (
	"fmt"
	"reflect"
	"strings"
	"testing"

	"smithy/api"
	"smithy/build"
	"smithy/gcrt"
	"smithy/word"
	"smithy/world"
)

// call is a system call that was done: its number, its arguments, what it answered.
type call struct {
	number  int64
	args    []uint64
	answers int64
}

// logBytes is how much room there is behind the data for what is noted of calls: how many there were, then five words each.
const logBytes = 1 << 20

// noted is a program each of whose system calls is noted first. That takes a call: registers outlive it, where a process isn't strict.
func noted(p api.WordProgram) (out api.WordProgram, log int) {
	log = len(p.Data)
	numbers := map[[2]int64]int{} // of functions that note, by a call's number and how many arguments it has
	out = api.WordProgram{Data: p.Data, Zero: logBytes}
	var more []api.WordFunction
	for _, f := range p.Funs {
		f.Code = append([]api.Word(nil), f.Code...)
		for i, w := range f.Code {
			if w.Kind != api.WordSys {
				continue
			}
			key := [2]int64{w.Imm, int64(len(w.Args))}
			if _, met := numbers[key]; !met {
				numbers[key] = len(p.Funs) + len(more)
				more = append(more, noting(w.Imm, len(w.Args), log))
			}
			f.Code[i] = api.Word{Kind: api.WordCall, D: w.D, F: numbers[key], Args: w.Args}
		}
		out.Funs = append(out.Funs, f)
	}
	out.Funs = append(out.Funs, more...)
	return out, log
}

// noting is a function that notes a system call, and does it.
func noting(number int64, many, log int) api.WordFunction {
	return build.Function(fmt.Sprint("note ", number, many), many, func(b *build.Builder) {
		count := b.Data(log)
		n := b.Load(count, 0)
		entry := b.Add(b.Data(log+8), b.Mul(n, b.Const(40)))
		b.Store(count, 0, b.Add(n, b.Const(1)))
		b.Store(entry, 0, b.Const(number))
		var args []build.Reg
		for i := range many {
			b.Store(entry, 8*(i+1), b.Param(i))
			args = append(args, b.Param(i))
		}
		answer := b.Sys(number, args...)
		b.Store(entry, 32, answer)
		b.Ret(answer)
	})
}

// newNoted is a bench whose system calls are noted, from a place of the data on.
func newNoted(t *testing.T, w api.World) (*bench, func() []call) {
	p, log := noted(Program())
	if e := word.Check(p); e != api.OK {
		t.Fatal(e)
	}
	p.Data, p.Zero = append(p.Data, make([]byte, p.Zero)...), 0
	b := started(t, p, gcrt.Cells(), w, 1<<21, false)
	b.data = b.data[:log]
	many := map[int64]int{0: 3, 1: 3, 2: 2, 3: 1, 60: 1}
	return b, func() (out []call) {
		place := cellsBase + uint64(log)
		for i := range b.load(place) {
			entry := place + 8 + 40*i
			c := call{number: int64(b.load(entry)), answers: int64(b.load(entry + 32))}
			for k := range many[c.number] {
				c.args = append(c.args, b.load(entry+8+8*uint64(k)))
			}
			out = append(out, c)
		}
		b.store(place, 0)
		return out
	}
}

// P17.4: primitives that do nothing to the world do no system calls; print and eprint do one, of the text as it lies.
func TestCallsOfPrimitives(t *testing.T) {
	t.Parallel()
	b, calls := newNoted(t, someWorld())
	for _, q := range many() {
		if worldly(q.name) {
			continue
		}
		b.rows(q)
		if l := calls(); l != nil {
			t.Errorf("%s: %v", q.name, l)
		}
	}
	for fd, name := range []string{1: "print", 2: "eprint"} {
		if name == "" {
			continue
		}
		for _, s := range []string{"", "a", "eight888", some(65536)} {
			b.push(s)
			place := b.heldWord(len(b.stack) - 1)
			b.rows(row{name, v{b.last()}, "<0: >"})
			n := uint64(len(s))
			if l := calls(); !reflect.DeepEqual(l, []call{{1, []uint64{uint64(fd), place + 8, n}, int64(n)}}) {
				t.Errorf("%s: %v", name, l)
			}
			b.popTo(always)
		}
	}
}

// P17.4: inputline reads the descriptor 0, and as many bytes as the line has, and no more.
func TestCallsOfInputLine(t *testing.T) {
	t.Parallel()
	b, calls := newNoted(t, api.World{Stdin: "one\n\n" + noLine(3000) + "\n" + noLine(20) + "\nlast"})
	for range 6 {
		n := len(b.mirror.Copy().Line())
		b.ask("inputline", 1)
		sum := 0
		for _, c := range calls() {
			if c.number != 0 || c.args[0] != 0 || c.answers < 0 {
				t.Errorf("%v", c)
			}
			sum += int(c.answers)
		}
		if sum != n {
			t.Errorf("%d bytes were read, the line has %d", sum, n)
		}
		b.popTo(always)
	}
}

// P17.4: readfile opens one descriptor, reads it, and closes it; writefile opens one, writes once, and closes it. Where a file can't be
// opened nothing else is done.
func TestCallsOfFiles(t *testing.T) {
	t.Parallel()
	b, calls := newNoted(t, api.World{Files: []api.File{{Name: "f", Data: "file"}, {Name: "empty"}, {Name: "long", Data: some(65536)}, {Name: "longer", Data: some(70000)}}})
	for _, name := range []string{"f", "empty", "long", "longer", "none"} {
		b.ask("readfile", name)
		b.popTo(always)
		l := calls()
		last := len(l) - 1
		if name == "none" {
			if last != 0 || l[0].number != 2 || l[0].args[1] != 0 || l[0].answers != -2 {
				t.Errorf("%s: %v", name, l)
			}
			continue
		}
		if last < 2 || l[0].number != 2 || l[0].args[1] != 0 || l[0].answers != 3 || !reflect.DeepEqual(l[last], call{3, []uint64{3}, 0}) {
			t.Fatalf("%s: %v", name, l)
		}
		for _, c := range l[1:last] {
			if c.number != 0 || c.args[0] != 3 || c.answers < 0 {
				t.Errorf("%s: %v", name, c)
			}
		}
	}
	for _, s := range []string{"", "x", some(65536)} {
		b.push(s)
		place := b.heldWord(len(b.stack) - 1)
		b.rows(row{"writefile", v{"new", b.last()}, "<0: >"})
		n := uint64(len(s))
		l := calls()
		if len(l) != 3 || l[0].number != 2 || l[0].args[1] != 577 || l[0].answers != 3 || !reflect.DeepEqual(l[1:], []call{{1, []uint64{3, place + 8, n}, int64(n)}, {3, []uint64{3}, 0}}) {
			t.Errorf("%v", l)
		}
		b.popTo(always)
	}
	for _, name := range []string{"", "a\x00", strings.Repeat("n", 256)} { // such a file may be tried to be opened, or not
		b.rows(row{"readfile", v{name}, io}, row{"writefile", v{name, "x"}, io})
		for _, c := range calls() {
			if c.number != 2 || c.answers >= 0 {
				t.Errorf("%v", c)
			}
		}
	}
}

// P17.4: exit does the call 60 alone; fail writes to the error output, and does the call 60.
func TestCallsOfEnds(t *testing.T) {
	t.Parallel()
	b, calls := newNoted(t, someWorld())
	p, _ := b.hand(v{7})
	if st := b.enter("do.exit", p); st != api.Exited {
		t.Error(st)
	}
	if l := calls(); len(l) != 1 || l[0].number != 60 || l[0].args[0]&255 != 7 {
		t.Errorf("%v", l)
	}
	b.popTo(always)
	b.push(tuple(ref{"E"}, 0))
	b.store(raisedCell, b.heldWord(always))
	if st := b.enter("fail"); st != api.Exited || b.s.Code() != 1 {
		t.Error(st)
	}
	l := calls()
	last := len(l) - 1
	if last < 1 || l[last].number != 60 || l[last].args[0] != 1 {
		t.Fatalf("%v", l)
	}
	for _, c := range l[:last] {
		if c.number != 1 || c.args[0] != 2 {
			t.Errorf("%v", c)
		}
	}
}

// P17.4: what is written by one function is one event, whatever was written ahead of it.
func TestOneEvent(t *testing.T) {
	t.Parallel()
	for _, r := range []struct {
		name string
		args v
		want api.Event
	}{
		{"print", v{some(5000)}, api.Event{Kind: api.EventOut, Text: some(5000)}}, {"eprint", v{some(5000)}, api.Event{Kind: api.EventErr, Text: some(5000)}},
		{"writefile", v{"x", some(5000)}, api.Event{Kind: api.EventWrite, Name: "x", Text: some(5000)}}, {"writefile", v{"x", ""}, api.Event{Kind: api.EventWrite, Name: "x"}}, {"print", v{""}, api.Event{}}, {"eprint", v{""}, api.Event{}},
	} {
		b := newBench(t, 1<<20, true)
		b.rows(row{r.name, r.args, "<0: >"})
		want := []api.Event{r.want}
		if r.want.Kind == 0 {
			want = nil
		}
		if l := b.w.Trace(); !reflect.DeepEqual(l, want) && len(l)+len(want) > 0 {
			t.Errorf("%s: %s", r.name, brief(l))
		}
	}
	w := world.New(api.World{})
	w.WriteFile("x", "")
	if len(w.Trace()) != 1 {
		t.Error(w.Trace())
	}
}
