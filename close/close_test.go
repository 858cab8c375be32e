package close_test

import (
	"os"
	"reflect"
	"runtime/debug"
	"strconv"
	"strings"
	"testing"

	"smithy/api"
	"smithy/close"
	"smithy/core"
	"smithy/elab"
	"smithy/flow"
	"smithy/match"
	"smithy/syntax"
	"smithy/types"
)

// Most runs are short and leave all that they made behind: there is room for the leavings of many. Calls must not be nested
// deeper than terms and flow are.
func TestMain(m *testing.M) {
	debug.SetGCPercent(1000)
	debug.SetMaxStack(64 << 20)
	os.Exit(m.Run())
}

// made is what Flow answers of a term that is not refused.
func made(t testing.TB, c api.Core) api.Program {
	t.Helper()
	p, e := close.Flow(c)
	if e != api.OK {
		t.Fatalf("%.3000s: %v", shown(c), e)
	}
	if e := flow.Check(p); e != api.OK {
		t.Fatalf("%.3000s: what is made of it may not be", shown(c))
	}
	return p
}

// refused holds that a term is ErrCore, with no program beside it.
func refused(t testing.TB, what string, c api.Core) {
	t.Helper()
	if p, e := close.Flow(c); e != api.ErrCore || !reflect.DeepEqual(p, api.Program{}) {
		t.Errorf("%s: %v, and a program of %d functions", what, e, len(p.Funs))
	}
}

// told is an outcome as a text: what was put out, behind a ! what was put to the error output, in brackets what was
// written to files; then the code, if it is not 0, or how else the run is over.
func told(out api.Outcome) string {
	s := ""
	for _, e := range out.Trace {
		switch e.Kind {
		case api.EventOut:
			s += e.Text
		case api.EventErr:
			s += "!" + strings.TrimSuffix(e.Text, "\n")
		case api.EventWrite:
			s += "[" + e.Name + ": " + e.Text + "]"
		}
	}
	switch {
	case out.Status == api.Running:
		s += " .."
	case out.Status == api.Stuck:
		s += " stuck"
	case out.Code != 0:
		s += " =" + strconv.Itoa(out.Code)
	}
	return s
}

const uncaught = "!uncaught exception "

// worlds are those that terms are done in.
func worlds() []api.World {
	return []api.World{
		{Stdin: "one\ntwo\n\nend", Files: []api.File{{Name: "f", Data: "data"}, {Name: "a"}}},
		{},
		{Stdin: "\n\nthree\nfour", Files: []api.File{{Name: "g", Data: strings.Repeat("g", 130)}, {Name: "f"}}},
	}
}

// run is what comes of a term, or of its flow, with so many steps.
type run func(fuel int) (api.Outcome, api.Errno)

func runsOf(c api.Core, p api.Program, w api.World) (term, flows run) {
	return func(fuel int) (api.Outcome, api.Errno) { return core.Run(c, w, fuel) }, func(fuel int) (api.Outcome, api.Errno) { return flow.Run(p, w, fuel) }
}

// outcomes are the unlike ones among those that a run has with some numbers of steps, and with all up to the first of these,
// or up to five behind that with which it is over. The last one is that of the last number.
func outcomes(t testing.TB, r run, some ...int) []api.Outcome {
	t.Helper()
	var list []api.Outcome
	add := func(fuel int) api.Outcome {
		out, e := r(fuel)
		if e != api.OK {
			t.Fatalf("%d steps: %v", fuel, e)
		}
		if len(list) == 0 || !reflect.DeepEqual(list[len(list)-1], out) {
			list = append(list, out)
		}
		return out
	}
	over := 0
	for fuel := 0; fuel < some[0] && over < 5; fuel++ {
		if add(fuel).Status != api.Running {
			over++
		}
	}
	for _, fuel := range some {
		add(fuel)
	}
	return list
}

// isBeginning tells whether a trace is the beginning of another one.
func isBeginning(a, b []api.Event) bool {
	if len(a) == 0 || len(a) > len(b) {
		return len(a) == 0
	}
	n := len(a) - 1
	last := b[n]
	return reflect.DeepEqual(a[:n], b[:n]) && last.Kind == a[n].Kind && last.Name == a[n].Name && strings.HasPrefix(last.Text, a[n].Text)
}

// areAlike tells whether b may come of what does what a came of.
func areAlike(a, b api.Outcome) bool {
	switch {
	case a.Status == api.Stuck || b.Status == api.Stuck:
		return false
	case a.Status == api.Exited && b.Status == api.Exited:
		return reflect.DeepEqual(a, b)
	case a.Status == api.Exited:
		return isBeginning(b.Trace, a.Trace)
	case b.Status == api.Exited:
		return isBeginning(a.Trace, b.Trace)
	}
	return isBeginning(a.Trace, b.Trace) || isBeginning(b.Trace, a.Trace)
}

// alike holds what a term does in a world against what its flow does there, with some numbers of steps, and with all up to the
// first of these; and it answers what comes of the flow with the last number, or with as many as there may be, if the term is
// over. Nothing is promised of the flow of a term that is stuck; but this one is stuck, too, with the same done till then.
func alike(t testing.TB, c api.Core, p api.Program, w api.World, some ...int) api.Outcome {
	t.Helper()
	term, flows := runsOf(c, p, w)
	of := outcomes(t, term, some...)
	end := of[len(of)-1]
	if end.Status != api.Running {
		some = append(some, api.MaxFuel)
	}
	is := outcomes(t, flows, some...)
	last := is[len(is)-1]
	if end.Status != api.Running && !reflect.DeepEqual(end, last) {
		t.Fatalf("%.3000s\ndoes    %.300s\nin flow %.300s", shown(c), told(end), told(last))
	}
	if end.Status == api.Stuck {
		return last
	}
	for _, a := range of {
		for _, b := range is {
			if !areAlike(a, b) {
				t.Fatalf("%.3000s\ndoes    %.300s\nin flow %.300s", shown(c), told(a), told(b))
			}
		}
	}
	return last
}

// everyStep is up to how many steps all numbers of them are tried.
const everyStep = 500

type row struct{ term, want string }

// hold holds what the flow of terms does against what they do, in all worlds, and in the first one against what is told.
func hold(t *testing.T, rows []row) {
	t.Helper()
	for _, r := range rows {
		c := termWith(t, r.term, given())
		p := made(t, c)
		for i, w := range worlds() {
			if got := told(alike(t, c, p, w, everyStep, api.MaxFuel)); i == 0 && got != r.want {
				t.Errorf("%.400s\n got  %.200s\n want %.200s", r.term, got, r.want)
			}
		}
	}
}

// The chapter's examples.
func TestExamples(t *testing.T) {
	hold(t, []row{
		{`(print (itext (((fn x (fn y (add x y))) 40) 2)))`, "42"},
		{`(rec (e (fn n (if (eq n 0) 1 (o (sub n 1))))) (o (fn n (if (eq n 0) 0 (e (sub n 1))))) (print (cat (itext (e 10)) (itext (e 7)))))`, "10"},
	})
	refused(t, "a case", term(t, `(case 1 (| 1 (print "a")) (print "b"))`))
	refused(t, "nothing", api.Core{})
}

// programFlow is the term without cases of a program that has types, and its flow.
func programFlow(t testing.TB, program string) (api.Core, api.Program, bool) {
	t.Helper()
	l, mishap := syntax.Parse(program)
	if mishap.Code != api.OK {
		t.Fatalf("%s\n%v", program, mishap)
	}
	l, _, e := types.Infer(l)
	if e != api.OK {
		return api.Core{}, api.Program{}, false
	}
	c, e := elab.Core(l)
	if e != api.OK {
		t.Fatalf("%s\n%v", program, e)
	}
	c, _, e = match.Switches(c)
	if e != api.OK {
		t.Fatalf("%s\n%v", program, e)
	}
	return c, made(t, c), true
}

// holdPrograms holds the flow of programs' terms against what these do, and against what is told.
func holdPrograms(t *testing.T, rows []row) {
	t.Helper()
	for _, r := range rows {
		c, p, is := programFlow(t, r.term)
		if !is {
			t.Fatalf("%s: no types", r.term)
		}
		for i, w := range worlds() {
			if got := told(alike(t, c, p, w, everyStep, api.MaxFuel)); i == 0 && got != r.want {
				t.Errorf("%.400s\n got  %.200s\n want %.200s", r.term, got, r.want)
			}
		}
	}
}

// The document's examples of the whole, as far as close may show them.
func TestPrograms(t *testing.T) {
	holdPrograms(t, []row{
		{"val _ = print \"hello\\n\"", "hello\n"},
		{"", ""},
		{"fun f n = if n = 0 then 1 else n * f (n - 1) val _ = print (Int.toString (f 25))", "15511210043330985984000000"},
		{"val x :: _ = [] : int list", uncaught + "Bind =1"},
		{"structure S :> sig type t val a : t val f : t -> int end = struct type t = int val a = 41 fun f x = x + 1 end val _ = print (Int.toString (S.f S.a))", "42"},
		{"fun loop n = loop (n + 1) val _ = loop 0", " .."},
		{`val _ = (print (readFile "f")) handle Io => exit 3`, "data"},
		{`val _ = (print (readFile "no")) handle Io => exit 3`, " =3"},
		{"val _ = print (Int.toString (Real.bits (0.0 / 0.0)))", "9221120237041090560"},
		{"fun grow l = grow (1 :: l) val _ = grow []", " .."},
		{"fun f [] = 0 | f [x] = x | f [] = 1 val _ = print (Int.toString (f [7]))", "7"},
		{"fun map f [] = [] | map f (x :: l) = f x :: map f l fun all [] = () | all (x :: l) = (print (Int.toString x); all l) val _ = all (map (fn x => x * x) [1, 2, 3])", "149"},
		{"fun fold f a [] = a | fold f a (x :: l) = fold f (f (x, a)) l val _ = print (Int.toString (fold (op +) 0 [1, 2, 3, 4]))", "10"},
		{"fun e 0 = true | e n = d (n - 1) and d 0 = false | d n = e (n - 1) val _ = if e 10 andalso d 7 then print \"yes\" else ()", "yes"},
		{"val r = ref 0 val _ = while !r < 3 do (print (Int.toString (!r)); r := !r + 1)", "012"},
		{"exception E of int fun f x = (raise E x) handle E 1 => 10 | E n => n val _ = print (Int.toString (f 1 + f 2))", "12"},
		{"fun compose f g x = f (g x) val twice = fn f => compose f f val _ = print (twice (twice (fn s => s ^ s)) \"a\")", "aaaaaaaaaaaaaaaa"},
		{"datatype t = L | N of t * int * t fun put L x = N (L, x, L) | put (t as N (l, y, r)) x = if x < y then N (put l x, y, r) else if y < x then N (l, y, put r x) else t fun all L = \"\" | all (N (l, x, r)) = all l ^ Int.toString x ^ all r val _ = print (all (put (put (put (put L 3) 1) 2) 3))", "123"},
		{"val _ = print (inputLine ()) val _ = print (inputLine ()) val _ = exit 7", "one\ntwo\n =7"},
	})
}
