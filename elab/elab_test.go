package elab_test

import (
	"os"
	"reflect"
	"runtime/debug"
	"strconv"
	"strings"
	"testing"

	"smithy/api"
	"smithy/core"
	"smithy/elab"
	"smithy/source"
	"smithy/syntax"
	"smithy/types"
)

// Most runs are short and leave all that they made behind: there is room for the leavings of many.
func TestMain(m *testing.M) {
	debug.SetGCPercent(1000)
	os.Exit(m.Run())
}

// typed are the declarations of a program, as Infer has answered them.
func typed(t testing.TB, program string) []api.Dec {
	t.Helper()
	l, m := syntax.Parse(program)
	if m.Code != api.OK {
		t.Fatalf("%.300s: %v", program, m)
	}
	l, _, e := types.Infer(l)
	if e != api.OK {
		t.Fatalf("%.300s: %v", program, e)
	}
	return l
}

// made is the term of declarations, which may be.
func made(t testing.TB, l []api.Dec) api.Core {
	t.Helper()
	c, e := elab.Core(l)
	if e != api.OK {
		t.Fatalf("%.300s: %v", syntax.Print(l), e)
	}
	if core.Check(c) != api.OK {
		t.Fatalf("%.300s: a term that may not be", syntax.Print(l))
	}
	return c
}

// told is an outcome as a text: what was put out, behind a ! what was put to the error output, in brackets what was
// written to files; then the code, if it is not 0, or how else the run is over.
func told(out api.Outcome) string {
	s := ""
	for _, e := range out.Trace {
		switch e.Kind {
		case api.EventOut:
			s += e.Text
		case api.EventErr:
			s += "!" + strings.TrimSuffix(e.Text, "\n")
		case api.EventWrite:
			s += "[" + e.Name + ": " + e.Text + "]"
		}
	}
	switch {
	case out.Status == api.Running:
		s += " .."
	case out.Status == api.Stuck:
		s += " stuck"
	case out.Code != 0:
		s += " =" + strconv.Itoa(out.Code)
	}
	return s
}

const uncaught = "!uncaught exception "

// theWorld is that of most tests.
func theWorld() api.World {
	return api.World{Stdin: "one\ntwo", Files: []api.File{{Name: "f", Data: "data"}, {Name: "long", Data: strings.Repeat("d", 300)}}}
}

// worlds are some more.
func worlds() []api.World {
	return []api.World{{}, {Stdin: "\n\nthree\nfour"}, {Stdin: strings.Repeat("w", 200), Files: []api.File{{Name: "g", Data: strings.Repeat("g", 130)}, {Name: "f"}, {Name: "f", Data: "other"}}}}
}

// run is what comes of a program, or of its term, with so many steps.
type run func(fuel int) (api.Outcome, api.Errno)

// outcomes are the unlike ones among those that a run has with some numbers of steps, and with all up to the first of these,
// or up to that with which it has ended. The last one is that of the last number.
func outcomes(t testing.TB, r run, some ...int) []api.Outcome {
	t.Helper()
	var list []api.Outcome
	add := func(fuel int) api.Outcome {
		out, e := r(fuel)
		if e != api.OK {
			t.Fatalf("%d steps: %v", fuel, e)
		}
		if len(list) == 0 || !reflect.DeepEqual(list[len(list)-1], out) {
			list = append(list, out)
		}
		return out
	}
	for fuel := range some[0] {
		if add(fuel).Status != api.Running {
			break
		}
	}
	for _, fuel := range some {
		add(fuel)
	}
	return list
}

// isBeginning tells whether a trace is the beginning of another one.
func isBeginning(a, b []api.Event) bool {
	if len(a) == 0 || len(a) > len(b) {
		return len(a) == 0
	}
	n := len(a) - 1
	last := b[n]
	return reflect.DeepEqual(a[:n], b[:n]) && last.Kind == a[n].Kind && last.Name == a[n].Name && strings.HasPrefix(last.Text, a[n].Text)
}

// areAlike tells whether b may come of what does what a came of.
func areAlike(a, b api.Outcome) bool {
	switch {
	case a.Status == api.Stuck || b.Status == api.Stuck:
		return false
	case a.Status == api.Exited && b.Status == api.Exited:
		return reflect.DeepEqual(a, b)
	case a.Status == api.Exited:
		return isBeginning(b.Trace, a.Trace)
	case b.Status == api.Exited:
		return isBeginning(a.Trace, b.Trace)
	}
	return isBeginning(a.Trace, b.Trace) || isBeginning(b.Trace, a.Trace)
}

// alike holds what a program does in a world against what its term does there, with some numbers of steps, and with all up to
// the first of these; and it answers what comes of the term with the last of these, or with as many as there may be, if the
// program has ended.
func alike(t testing.TB, l []api.Dec, c api.Core, w api.World, some ...int) api.Outcome {
	t.Helper()
	of := outcomes(t, func(fuel int) (api.Outcome, api.Errno) { return source.Run(l, w, fuel) }, some...)
	if hasEnded(of) {
		some = append(some, api.MaxFuel)
	}
	is := outcomes(t, func(fuel int) (api.Outcome, api.Errno) { return core.Run(c, w, fuel) }, some...)
	for _, a := range of {
		for _, b := range is {
			if !areAlike(a, b) {
				t.Fatalf("%.1000s\nthe program: %.300s\nits term:    %.300s", syntax.Print(l), told(a), told(b))
			}
		}
	}
	if hasEnded(of) && !hasEnded(is) {
		t.Fatalf("%.1000s\nthe term goes on where the program has ended", syntax.Print(l))
	}
	return is[len(is)-1]
}

func hasEnded(l []api.Outcome) bool { return l[len(l)-1].Status == api.Exited }

type row struct{ program, want string }

// everyStep is up to how many steps all numbers of them are tried.
const everyStep = 150

// hold holds programs against what their terms should do, and against what they do themselves.
func hold(t *testing.T, rows []row) {
	t.Helper()
	for _, r := range rows {
		l := typed(t, r.program)
		c := made(t, l)
		if got := told(alike(t, l, c, theWorld(), everyStep, api.MaxFuel)); got != r.want {
			t.Errorf("%.400s\n got  %.200s\n want %.200s", r.program, got, r.want)
		}
		for _, w := range worlds() {
			alike(t, l, c, w, 0, 5, 15, 40, api.MaxFuel)
		}
	}
}

// The document's examples.
func TestExamples(t *testing.T) {
	hold(t, []row{
		{"structure S = struct datatype t = A | B of int fun f A = 1 | f (B n) = n end val _ = print (Int.toString (S.f (S.B 40) + S.f S.A))", "41"},
		{`val {b = x, a = y} = {b = print "b", a = print "a"}`, "ba"},
		{"val x = fn true => 1 val y = x false", uncaught + "Match =1"},
		{"val _ = print \"hello\\n\"", "hello\n"},
		{"fun f n = if n = 0 then 1 else n * f (n - 1) val _ = print (Int.toString (f 25))", "15511210043330985984000000"},
		{"val x :: _ = [] : int list", uncaught + "Bind =1"},
		{"structure S :> sig type t val a : t val f : t -> int end = struct type t = int val a = 41 fun f x = x + 1 end val _ = print (Int.toString (S.f S.a))", "42"},
		{"fun loop n = loop (n + 1) val _ = loop 0", " .."},
		{`val _ = (print (readFile "f")) handle Io => exit 3`, "data"},
		{`val _ = (print (readFile "g")) handle Io => exit 3`, " =3"},
		{"val _ = print (Int.toString (Real.bits (0.0 / 0.0)))", "9221120237041090560"},
		{"fun grow l = grow (1 :: l) val _ = grow []", " .."},
		{"fun f [] = 0 | f [x] = x | f [] = 1 val _ = print (Int.toString (f [7]))", "7"},
		{"exception E of int val _ = (raise E 3) handle E n => exit n", " =3"},
		{`val r = ref 0 val _ = while !r < 3 do (print "x"; r := !r + 1)`, "xxx"},
		{"val a = 1", ""},
		{"", ""},
	})
}
