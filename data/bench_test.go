package data_test

import (
	"math/rand/v2"
	"os"
	"runtime/debug"
	"slices"
	"strings"
	"testing"

	"smithy/api"
	"smithy/data"
	"smithy/flow"
	"smithy/word"
	"smithy/world"
)

type (
	kids  = []api.Flow
	atoms = []api.Atom
	funs  = []string
)

const (
	least    = uint64(api.MinHeap)
	memory   = "out of memory"
	fullCode = 137
	patience = 100_000_000 // steps after which a process should have ended, if the run has
	enough   = 300_000     // steps that are looked at, if it hasn't
)

func TestMain(m *testing.M) {
	debug.SetGCPercent(300) // much is made, and little of it held
	os.Exit(m.Run())
}

// longer is one byte more than a text may have.
var longer = strings.Repeat("d", api.MaxString+1)

// theWorld is one with input and files.
func theWorld() api.World {
	return api.World{Stdin: "one\ntwo\n\nend", Files: []api.File{{Name: "f", Data: "data"}, {Name: "long", Data: longer[1:]}, {Name: "longer", Data: longer}}}
}

// smallWorld is one whose files are short.
func smallWorld() api.World {
	return api.World{Stdin: "one\ntwo\n\nend", Files: []api.File{{Name: "f", Data: "data"}, {Name: "a"}}}
}

// made is the word program of a program that may be.
func made(t testing.TB, p api.Program) api.WordProgram {
	t.Helper()
	q, e := data.Program(p)
	if e != api.OK || word.Check(q) != api.OK || q.Funs[0].Name != "main" {
		t.Fatalf("%v, %v: %.300s", e, word.Check(q), shown(p))
	}
	return q
}

// outcome is what comes of a program with the most steps that there may be.
func outcome(t testing.TB, p api.Program, w api.World) api.Outcome {
	t.Helper()
	out, e := flow.Run(p, w, api.MaxFuel)
	if e != api.OK {
		t.Fatalf("%v: %.300s", e, shown(p))
	}
	return out
}

// isBeginning tells whether a trace is the beginning of another one.
func isBeginning(a, b []api.Event) bool {
	last := len(a) - 1
	if last < 0 {
		return true
	}
	return len(a) <= len(b) && slices.Equal(a[:last], b[:last]) && a[last].Kind == b[last].Kind && a[last].Name == b[last].Name && strings.HasPrefix(b[last].Text, a[last].Text)
}

// isOneOf tells whether one of two traces is the beginning of the other one.
func isOneOf(a, b []api.Event) bool { return isBeginning(a, b) || isBeginning(b, a) }

// beforeMemory is what a trace has ahead of what is said where there is no more memory.
func beforeMemory(l []api.Event, code int) ([]api.Event, bool) {
	last := len(l) - 1
	if code != fullCode || last < 0 || l[last].Kind != api.EventErr || !strings.HasSuffix(l[last].Text, memory) {
		return nil, false
	}
	out := slices.Clone(l)
	out[last].Text = strings.TrimSuffix(out[last].Text, memory)
	if out[last].Text == "" {
		out = out[:last]
	}
	return out, true
}

// isAlike is P18.2, of how a process stands and what comes of the run. Full tells whether the process has ended for want of memory.
func isAlike(run api.Outcome, status, code int, trace []api.Event) (alike, full bool) {
	ended := run.Status == api.Exited
	before, full := beforeMemory(trace, code)
	switch {
	case status == api.Exited && full:
		return isBeginning(before, run.Trace) || !ended && isOneOf(before, run.Trace), true
	case status == api.Exited && ended:
		return code == run.Code && slices.Equal(trace, run.Trace), false
	case status == api.Exited:
		return isBeginning(run.Trace, trace), false
	case status == api.Running && ended:
		return isBeginning(trace, run.Trace), false
	}
	return status == api.Running && isOneOf(trace, run.Trace), false
}

// stops are numbers of steps, more and more of them.
func stops(r *rand.Rand) func() int {
	most := 1
	return func() int {
		most = min(most+1+most/3, 2_000_000)
		return 1 + r.IntN(most)
	}
}

// process runs a word program in a world, and holds it against the run of its program behind some numbers of steps. It answers whether
// it has ended, and whether for want of memory.
func process(t testing.TB, q api.WordProgram, w api.World, heap uint64, strict bool, run api.Outcome, what string) (ended, full bool) {
	t.Helper()
	mine := world.New(w)
	s, e := word.New(q, heap, strict, mine)
	if e != api.OK {
		t.Fatal(e)
	}
	next := stops(rand.New(rand.NewPCG(heap, uint64(len(what)))))
	for {
		status := s.Run(next())
		if _, said := beforeMemory(mine.Trace(), fullCode); said {
			status = s.Run(1) // it has said so, and ends with the next step
		}
		alike, full := isAlike(run, status, s.Code(), mine.Trace())
		if !alike {
			t.Fatalf("heap %d, strict %v: behind %d steps %d, code %d, %.300v, not %.300v: %.3000s", heap, strict, s.Steps(), status, s.Code(), mine.Trace(), run, what)
		}
		if status == api.Exited {
			return true, full
		}
		if s.Steps() > patience || run.Status == api.Running && s.Steps() > enough {
			return false, false
		}
	}
}

// holdIn holds a program's words against it in a world, with some heaps; false, if its run is stuck.
func holdIn(t testing.TB, p api.Program, w api.World, heaps ...uint64) bool {
	t.Helper()
	return holdMade(t, p, made(t, p), w, heaps...)
}

// holdMade holds words that were made of it.
func holdMade(t testing.TB, p api.Program, q api.WordProgram, w api.World, heaps ...uint64) bool {
	t.Helper()
	run := outcome(t, p, w)
	if run.Status == api.Stuck {
		return false
	}
	what := shown(p)
	if !word.Strict(q) {
		t.Fatalf("reads what isn't set: %s", what)
	}
	for i, heap := range heaps {
		ended, _ := process(t, q, w, heap, i%2 == 0, run, what)
		if run.Status == api.Exited && !ended {
			t.Fatalf("heap %d: does not end: %s", heap, what)
		}
	}
	return true
}

// ample is a heap in which no program of a table needs more memory than there is.
const ample = uint64(1 << 23)

// row is a program, what comes of it, and how many steps that takes (which nobody asks here).
type row struct {
	funs  funs
	want  string
	steps int
}

// hold holds programs against what should come of them.
func hold(t *testing.T, rows []row) {
	t.Helper()
	for _, r := range rows {
		holdSteps(t, program(t, r.funs...), strings.Join(r.funs, " | "), r.want, r.steps)
	}
}

// holdSteps holds a program, in the least heap and in an ample one, with one step at a time at first, and with a collector that the test
// is. In the ample one it ends as it should.
func holdSteps(t *testing.T, p api.Program, what, want string, _ int) {
	t.Helper()
	run := outcome(t, p, theWorld())
	if got := told(run); got != want {
		t.Fatalf("%.200s: %.200s, not %.200s", what, got, want)
	}
	if run.Status != api.Stuck {
		holdEnd(t, p, theWorld())
	}
}

// holdEnd holds a program that isn't stuck, and in an ample heap does what it does.
func holdEnd(t *testing.T, p api.Program, w api.World) {
	t.Helper()
	run := outcome(t, p, w)
	if !holdIn(t, p, w, least, 1<<17, ample) {
		t.Fatalf("is stuck: %.300s", shown(p))
	}
	if _, full := process(t, made(t, p), w, ample, false, run, shown(p)); full {
		t.Fatalf("there is no memory: %.300s", shown(p))
	}
	keptIn(t, p, w, len(p.Funs)%2 == 0)
}

// told is an outcome as a text: what was written, then how it ended.
func told(out api.Outcome) string {
	var b strings.Builder
	for _, e := range out.Trace {
		switch e.Kind {
		case api.EventOut:
			b.WriteString(e.Text + "; ")
		case api.EventErr:
			b.WriteString("err " + strings.TrimSuffix(e.Text, "\n") + "; ")
		case api.EventWrite:
			b.WriteString("file " + e.Name + " " + e.Text + "; ")
		}
	}
	switch out.Status {
	case api.Exited:
		b.WriteString("exited " + shownCode(out.Code))
	case api.Stuck:
		b.WriteString("stuck")
	default:
		b.WriteString("running")
	}
	return b.String()
}

func shownCode(n int) string {
	if n >= 10 {
		return shownCode(n/10) + string(rune('0'+n%10))
	}
	return string(rune('0' + n))
}
