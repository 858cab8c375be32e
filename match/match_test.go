package match_test

import (
	"os"
	"reflect"
	"runtime/debug"
	"strconv"
	"strings"
	"testing"

	"smithy/api"
	"smithy/core"
	"smithy/elab"
	"smithy/match"
	"smithy/syntax"
	"smithy/types"
)

// Most runs are short and leave all that they made behind: there is room for the leavings of many.
func TestMain(m *testing.M) {
	debug.SetGCPercent(1000)
	os.Exit(m.Run())
}

// termOf is the term that elab makes of a program.
func termOf(t testing.TB, program string) api.Core {
	t.Helper()
	c, is := mayBe(t, program)
	if !is {
		t.Fatalf("%.300s: no types", program)
	}
	return c
}

// mayBe is the term that elab makes of a program, if it has types.
func mayBe(t testing.TB, program string) (api.Core, bool) {
	t.Helper()
	l, m := syntax.Parse(program)
	if m.Code != api.OK {
		t.Fatalf("%.300s: %v", program, m)
	}
	l, _, e := types.Infer(l)
	if e != api.OK {
		return api.Core{}, false
	}
	c, e := elab.Core(l)
	if e != api.OK {
		t.Fatalf("%.300s: %v", program, e)
	}
	return c, true
}

// switched is what Switches answers of a term, which is held against what it promises of all terms.
func switched(t testing.TB, c api.Core) (api.Core, []api.Warning) {
	t.Helper()
	s, list, e := match.Switches(c)
	if e != api.OK {
		t.Fatalf("%.300s: %v", shown(c), e)
	}
	if core.Check(s) != api.OK || !core.Plain(s) {
		t.Fatalf("%.3000s: it may not be, or is not plain, what was made of %.3000s", shown(s), shown(c))
	}
	if told, e := match.Warnings(c); e != api.OK || !reflect.DeepEqual(told, list) {
		t.Fatalf("%.300s: %v and %v, %v", shown(c), list, told, e)
	}
	return s, list
}

// told is an outcome as a text: what was put out, behind a ! what was put to the error output, in brackets what was
// written to files; then the code, if it is not 0, or how else the run is over.
func told(out api.Outcome) string {
	s := ""
	for _, e := range out.Trace {
		switch e.Kind {
		case api.EventOut:
			s += e.Text
		case api.EventErr:
			s += "!" + strings.TrimSuffix(e.Text, "\n")
		case api.EventWrite:
			s += "[" + e.Name + ": " + e.Text + "]"
		}
	}
	switch {
	case out.Status == api.Running:
		s += " .."
	case out.Status == api.Stuck:
		s += " stuck"
	case out.Code != 0:
		s += " =" + strconv.Itoa(out.Code)
	}
	return s
}

const (
	noMatch = "!uncaught exception Match =1"
	noBind  = "!uncaught exception Bind =1"
)

// worlds are those that terms are done in.
func worlds() []api.World {
	return []api.World{{Stdin: "one\ntwo", Files: []api.File{{Name: "f", Data: "data"}}}, {}, {Stdin: "\n\nthree\nfour", Files: []api.File{{Name: "g", Data: strings.Repeat("g", 130)}, {Name: "f"}}}}
}

// outcomes are the unlike ones that a term has in a world with some numbers of steps, and with all up to the first of these, or
// up to that with which it is over. The last one is that of the last number.
func outcomes(t testing.TB, c api.Core, w api.World, some ...int) []api.Outcome {
	t.Helper()
	var list []api.Outcome
	add := func(fuel int) api.Outcome {
		out, e := core.Run(c, w, fuel)
		if e != api.OK {
			t.Fatalf("%.300s: %d steps: %v", shown(c), fuel, e)
		}
		if len(list) == 0 || !reflect.DeepEqual(list[len(list)-1], out) {
			list = append(list, out)
		}
		return out
	}
	for fuel := range some[0] {
		if add(fuel).Status != api.Running {
			break
		}
	}
	for _, fuel := range some {
		add(fuel)
	}
	return list
}

// isBeginning tells whether a trace is the beginning of another one.
func isBeginning(a, b []api.Event) bool {
	if len(a) == 0 || len(a) > len(b) {
		return len(a) == 0
	}
	n := len(a) - 1
	last := b[n]
	return reflect.DeepEqual(a[:n], b[:n]) && last.Kind == a[n].Kind && last.Name == a[n].Name && strings.HasPrefix(last.Text, a[n].Text)
}

// areAlike tells whether b may come of what does what a came of.
func areAlike(a, b api.Outcome) bool {
	switch {
	case a.Status == api.Stuck || b.Status == api.Stuck:
		return false
	case a.Status == api.Exited && b.Status == api.Exited:
		return reflect.DeepEqual(a, b)
	case a.Status == api.Exited:
		return isBeginning(b.Trace, a.Trace)
	case b.Status == api.Exited:
		return isBeginning(a.Trace, b.Trace)
	}
	return isBeginning(a.Trace, b.Trace) || isBeginning(b.Trace, a.Trace)
}

// alike holds what a term does in a world against what its switches do there, with some numbers of steps, and with all up to the
// first of these; and it answers what comes of these with the last number, or with as many as there may be, if the term has ended.
// Nothing is held of a term that is stuck.
func alike(t testing.TB, c, s api.Core, w api.World, some ...int) api.Outcome {
	t.Helper()
	of := outcomes(t, c, w, some...)
	end := of[len(of)-1]
	if end.Status == api.Stuck {
		return end
	}
	if end.Status == api.Exited {
		some = append(some, api.MaxFuel)
	}
	is := outcomes(t, s, w, some...)
	for _, a := range of {
		for _, b := range is {
			if !areAlike(a, b) {
				t.Fatalf("%.3000s\ndoes     %.300s\n%.3000s\n, of it, %.300s", shown(c), told(a), shown(s), told(b))
			}
		}
	}
	last := is[len(is)-1]
	if end.Status == api.Exited && last.Status != api.Exited {
		t.Fatalf("%.3000s has ended, and its switches have not", shown(c))
	}
	return last
}

type row struct{ program, want string }

// everyStep is up to how many steps all numbers of them are tried.
const everyStep = 400

// hold holds what comes of programs' switches against what should, and against what their terms do.
func hold(t *testing.T, ahead string, rows []row) {
	t.Helper()
	for _, r := range rows {
		c := termOf(t, ahead+r.program)
		s, _ := switched(t, c)
		for i, w := range worlds() {
			if got := told(alike(t, c, s, w, everyStep, api.MaxFuel)); got != r.want && i == 0 {
				t.Errorf("%.400s\n got  %.200s\n want %.200s", r.program, got, r.want)
			}
		}
	}
}

// The examples of the document.
func TestExamples(t *testing.T) {
	for program, want := range map[string][]api.Warning{
		"fun f [] = 0 | f [x] = x | f [] = 1":                                      {{Case: 0, Row: 2}, {Case: 0, Row: -1}},
		"fun g true = 1 | g false = 2":                                             nil,
		"val f = fn 0 => 1 | 0 => 2":                                               {{Case: 0, Row: 1}, {Case: 0, Row: -1}},
		"fun f [] = 0 | f [x] = x | f [] = 1 val _ = print (Int.toString (f [7]))": {{Case: 0, Row: 2}, {Case: 0, Row: -1}},
		"val x :: _ = [] : int list":                                               {{Case: 0, Row: -1}},
	} {
		if _, list := switched(t, termOf(t, program)); !reflect.DeepEqual(list, want) {
			t.Errorf("%s: %v", program, list)
		}
	}
	hold(t, "", []row{
		{"fun f [] = 0 | f [x] = x | f [] = 1 val _ = print (Int.toString (f [7]))", "7"},
		{"val x :: _ = [] : int list", noBind},
		{`val _ = print "hello"`, "hello"},
		{"fun f n = if n = 0 then 1 else n * f (n - 1) val _ = print (Int.toString (f 25))", "15511210043330985984000000"},
		{"structure S :> sig type t val a : t val f : t -> int end = struct type t = int val a = 41 fun f x = x + 1 end val _ = print (Int.toString (S.f S.a))", "42"},
		{"fun loop n = loop (n + 1) val _ = loop 0", " .."},
		{`val _ = (print (readFile "f")) handle Io => exit 3`, "data"},
		{`val _ = (print (readFile "no")) handle Io => exit 3`, " =3"},
		{"val x = fn true => 1 val y = x false", noMatch},
		{"", ""},
	})
}
