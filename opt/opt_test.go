package opt_test

import (
	"os"
	"reflect"
	"runtime/debug"
	"strconv"
	"strings"
	"sync"
	"testing"

	"smithy/api"
	"smithy/big"
	"smithy/flow"
	"smithy/opt"
)

// Most runs are short and leave all that they made behind: there is room for the leavings of many. Calls must not be nested
// much deeper than flow is, or than functions call one another.
func TestMain(m *testing.M) {
	debug.SetGCPercent(1000)
	debug.SetMaxStack(64 << 20)
	os.Exit(m.Run())
}

// made is what Opt answers of a program that may be: one that may be.
func made(t testing.TB, p api.Program) api.Program {
	t.Helper()
	q, e := opt.Opt(p)
	if e != api.OK {
		t.Fatalf("%.3000s\n%v", shown(p), e)
	}
	if e := flow.Check(q); e != api.OK {
		t.Fatalf("%.3000s\nwhat is made of it may not be\n%.3000s", shown(p), shown(q))
	}
	return q
}

// refused holds that a program is ErrFlow, with no program beside it.
func refused(t testing.TB, what string, p api.Program) {
	t.Helper()
	if flow.Check(p) != api.ErrFlow {
		t.Errorf("%s: it may be", what)
	}
	if q, e := opt.Opt(p); e != api.ErrFlow || !reflect.DeepEqual(q, api.Program{}) {
		t.Errorf("%s: %v, and a program of %d functions", what, e, len(q.Funs))
	}
}

// told is an outcome as a text: what was put out, behind a ! what was put to the error output, in brackets what was
// written to files; then the code, if it is not 0, or how else the run is over.
func told(out api.Outcome) string {
	s := ""
	for _, e := range out.Trace {
		switch e.Kind {
		case api.EventOut:
			s += e.Text
		case api.EventErr:
			s += "!" + strings.TrimSuffix(e.Text, "\n")
		case api.EventWrite:
			s += "[" + e.Name + ": " + e.Text + "]"
		}
	}
	switch {
	case out.Status == api.Running:
		s += " .."
	case out.Status == api.Stuck:
		s += " stuck"
	case out.Code != 0:
		s += " =" + strconv.Itoa(out.Code)
	}
	return s
}

const uncaught = "!uncaught exception "

// worlds are those that programs are done in.
func worlds() []api.World {
	return []api.World{
		{Stdin: "one\ntwo\n\nend", Files: []api.File{{Name: "f", Data: "data"}, {Name: "a"}}},
		{},
		{Stdin: "\n\nthree\nfour", Files: []api.File{{Name: "g", Data: strings.Repeat("g", 130)}, {Name: "f"}}},
	}
}

// runIn is the outcome of a program that may be.
func runIn(t testing.TB, p api.Program, w api.World, fuel int) api.Outcome {
	t.Helper()
	out, e := flow.Run(p, w, fuel)
	if e != api.OK {
		t.Fatalf("%.300s: %v", shown(p), e)
	}
	return out
}

// isBeginning tells whether a trace is the beginning of another one.
func isBeginning(a, b []api.Event) bool {
	if len(a) == 0 || len(a) > len(b) {
		return len(a) == 0
	}
	n := len(a) - 1
	last := b[n]
	return reflect.DeepEqual(a[:n], b[:n]) && last.Kind == a[n].Kind && last.Name == a[n].Name && strings.HasPrefix(last.Text, a[n].Text)
}

// areAlike tells whether b may come of what does what a came of.
func areAlike(a, b api.Outcome) bool {
	switch {
	case a.Status == api.Stuck || b.Status == api.Stuck:
		return false
	case a.Status == api.Exited && b.Status == api.Exited:
		return reflect.DeepEqual(a, b)
	case a.Status == api.Exited:
		return isBeginning(b.Trace, a.Trace)
	case b.Status == api.Exited:
		return isBeginning(a.Trace, b.Trace)
	}
	return isBeginning(a.Trace, b.Trace) || isBeginning(b.Trace, a.Trace)
}

// outcomes are the unlike ones among those that a program has, with their numbers of steps: with all numbers up to the first of
// some, or up to five behind that with which it is over, and with these.
type outcomes struct {
	all  []api.Outcome
	with map[int]api.Outcome
	end  api.Outcome // with the last number
}

func outcomesOf(t testing.TB, p api.Program, w api.World, some ...int) outcomes {
	t.Helper()
	o := outcomes{with: map[int]api.Outcome{}}
	add := func(fuel int) {
		o.end = runIn(t, p, w, fuel)
		o.with[fuel] = o.end
		if len(o.all) == 0 || !reflect.DeepEqual(o.all[len(o.all)-1], o.end) {
			o.all = append(o.all, o.end)
		}
	}
	over := 0
	for fuel := 0; fuel < some[0] && over < 5; fuel++ {
		add(fuel)
		if o.end.Status != api.Running {
			over++
		}
	}
	for _, fuel := range some {
		add(fuel)
	}
	return o
}

// alike holds what a program does in a world against what was made of it does there, with some numbers of steps, and with all up
// to the first of these; and it answers what comes of the latter with the last number. Of a program that is stuck only this is
// promised: what was made of it is stuck only if it is. But more than what is promised holds: what was made of a program does no
// less with any number of steps, and where the program is over, it is over with the same done, also if it is stuck.
func alike(t testing.TB, p, q api.Program, w api.World, some ...int) api.Outcome {
	t.Helper()
	of, is := outcomesOf(t, p, w, some...), outcomesOf(t, q, w, some...)
	fail := func(a, b api.Outcome) {
		t.Helper()
		t.Fatalf("%.6000s\ndoes %.300s\n\n%.6000s\ndoes %.300s", shown(p), told(a), shown(q), told(b))
	}
	for fuel, a := range of.with {
		b, held := is.with[fuel]
		if held && (a.Status != api.Running && !reflect.DeepEqual(a, b) || !isBeginning(a.Trace, b.Trace)) {
			fail(a, b)
		}
	}
	if of.end.Status == api.Stuck {
		return is.end
	}
	if of.end.Status == api.Exited && is.end.Status != api.Exited {
		fail(of.end, is.end)
	}
	for _, a := range of.all {
		for _, b := range is.all {
			if !areAlike(a, b) {
				fail(a, b)
			}
		}
	}
	return is.end
}

// again is what comes of handing in again what was answered, so many times; each answer may be.
func again(t testing.TB, q api.Program, times int) api.Program {
	t.Helper()
	for range times {
		q = made(t, q)
	}
	return q
}

// everyStep is up to how many steps all numbers of them are tried.
const everyStep = 300

type funs = []string

// row is a program, and what it does in the first world.
type row struct {
	funs funs
	want string
}

// holdOne holds a program against what was made of it, once and again, in all worlds.
func holdOne(t testing.TB, p api.Program, want string) {
	t.Helper()
	q := made(t, p)
	r := again(t, q, 2)
	for i, w := range worlds() {
		if got := told(alike(t, p, q, w, everyStep, 1100, api.MaxFuel)); i == 0 && got != want {
			t.Errorf("%.400s\n got  %.200s\n want %.200s", shown(p), got, want)
		}
		alike(t, p, r, w, everyStep, 1100, api.MaxFuel)
	}
}

func hold(t *testing.T, rows []row) {
	t.Helper()
	for _, r := range rows {
		holdOne(t, programWith(t, given(), r.funs...), r.want)
	}
}

// hands is by how many the work of a test is shared.
const hands = 8

func shared(t *testing.T, work func(t *testing.T, seed int)) {
	var all sync.WaitGroup
	for seed := range hands {
		all.Go(func() { work(t, seed+1) })
	}
	all.Wait()
}

type (
	kids  = []api.Flow
	atoms = []api.Atom
)

func whole(n int) api.Atom         { return api.Atom{Kind: api.AtomInt, Int: big.Of(int64(n))} }
func local(v int) api.Atom         { return api.Atom{Kind: api.AtomVar, V: v} }
func small(n int) api.Atom         { return api.Atom{Kind: api.AtomSmall, V: n} }
func ret(a api.Atom) api.Flow      { return api.Flow{Kind: api.FlowRet, A: a} }
func tail(f int, l atoms) api.Flow { return api.Flow{Kind: api.FlowTail, F: f, Args: l} }
func real(bits uint64) api.Atom    { return api.Atom{Kind: api.AtomReal, Bits: bits} }

func let(v int, o api.Op, next api.Flow) api.Flow {
	return api.Flow{Kind: api.FlowLet, V: v, Op: o, Kids: kids{next}}
}

// one is a program of one function, with so many locals.
func one(locals int, body api.Flow) api.Program {
	return api.Program{Funs: []api.Func{{Locals: locals, Body: body}}}
}
