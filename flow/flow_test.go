package flow_test

import (
	"fmt"
	"maps"
	"reflect"
	"slices"
	"strings"
	"testing"

	"smithy/api"
	"smithy/flow"
)

// longer is one byte more than a text may have.
var longer = strings.Repeat("d", api.MaxString+1)

// theWorld is one with input and files.
func theWorld() api.World {
	return api.World{Stdin: "one\ntwo\n\nend", Files: []api.File{{Name: "f", Data: "data"}, {Name: "long", Data: longer[1:]}, {Name: "longer", Data: longer}}}
}

// smallWorld is one whose files are short.
func smallWorld() api.World {
	return api.World{Stdin: "one\ntwo\n\nend", Files: []api.File{{Name: "f", Data: "data"}, {Name: "a"}}}
}

// run is the outcome of a program that may be.
func run(t testing.TB, p api.Program, fuel int) api.Outcome {
	t.Helper()
	return runIn(t, p, theWorld(), fuel)
}

func runIn(t testing.TB, p api.Program, w api.World, fuel int) api.Outcome {
	t.Helper()
	out, e := flow.Run(p, w, fuel)
	if e != api.OK {
		t.Fatalf("%.300s: %v", shown(p), e)
	}
	if out.Code != 0 && out.Status != api.Exited {
		t.Fatalf("%.300s: %+v", shown(p), out)
	}
	return out
}

// told is an outcome as a text: what was written, then how it ended.
func told(out api.Outcome) string {
	var b strings.Builder
	for _, e := range out.Trace {
		switch e.Kind {
		case api.EventOut:
			fmt.Fprintf(&b, "%s; ", e.Text)
		case api.EventErr:
			fmt.Fprintf(&b, "err %s; ", strings.TrimSuffix(e.Text, "\n"))
		case api.EventWrite:
			fmt.Fprintf(&b, "file %s %s; ", e.Name, e.Text)
		}
	}
	switch out.Status {
	case api.Exited:
		fmt.Fprintf(&b, "exited %d", out.Code)
	case api.Stuck:
		b.WriteString("stuck")
	default:
		b.WriteString("running")
	}
	return b.String()
}

// isBeginning tells whether a trace is the beginning of another one.
func isBeginning(a, b []api.Event) bool {
	last := len(a) - 1
	if last < 0 {
		return true
	}
	return len(a) <= len(b) && slices.Equal(a[:last], b[:last]) && a[last].Kind == b[last].Kind && a[last].Name == b[last].Name && strings.HasPrefix(b[last].Text, a[last].Text)
}

// funs are the texts of a program's functions.
type funs = []string

// row is a program, what comes of it, and how many steps that takes.
type row struct {
	funs  funs
	want  string
	steps int
}

// hold holds programs against what should come of them, with every number of steps up to those that they take, and with more.
func hold(t *testing.T, rows []row) {
	t.Helper()
	for _, r := range rows {
		holdSteps(t, program(t, r.funs...), strings.Join(r.funs, " | "), r.want, r.steps)
	}
}

func holdSteps(t *testing.T, p api.Program, what, want string, steps int) {
	t.Helper()
	all := run(t, p, api.MaxFuel)
	if got := told(all); got != want {
		t.Errorf("%.200s: %.200s, not %.200s", what, got, want)
		return
	}
	for fuel := range steps {
		if out := run(t, p, fuel); out.Status != api.Running || !isBeginning(out.Trace, all.Trace) {
			t.Errorf("%.200s, with %d of %d steps: %.200s", what, fuel, steps, told(out))
			return
		}
	}
	for _, fuel := range []int{steps, steps + 1} {
		if out := run(t, p, fuel); !reflect.DeepEqual(out, all) {
			t.Errorf("%.200s, with %d steps: %.200s", what, fuel, told(out))
		}
	}
}

// The chapter's examples.
func TestExamples(t *testing.T) {
	hold(t, []row{
		{funs{`let 0 = print "a"; ret v0`}, "a; exited 0", 2},
		{funs{`let 0 = div 1 0; ret v0`}, "err uncaught exception Div; exited 1", 1},
		{funs{`try { let 1 = div 1 0; ret v1 } catch 0 { ret 7 } then 2; let 3 = itext v2; let 4 = print v3; ret v4`}, "7; exited 0", 6},
		{funs{`let 0 = exit ~1; ret v0`}, "exited 255", 1},
		{funs{`let 0 = add "a" 1; ret v0`}, "stuck", 1},
	})
	out := run(t, program(t, `let 0 = print "a"; ret v0`), 1)
	if want := (api.Outcome{Status: api.Running, Trace: []api.Event{{Kind: api.EventOut, Text: "a"}}}); !reflect.DeepEqual(out, want) {
		t.Errorf("%+v", out)
	}
	out = run(t, program(t, `let 0 = div 1 0; ret v0`), 1)
	if want := (api.Outcome{Status: api.Exited, Code: 1, Trace: []api.Event{{Kind: api.EventErr, Text: "uncaught exception Div\n"}}}); !reflect.DeepEqual(out, want) {
		t.Errorf("%+v", out)
	}
}

// P10.2: ErrFlow comes ahead of ErrArg; with an error the outcome is the zero one.
func TestFuel(t *testing.T) {
	may, mayNot := program(t, `let 0 = print "a"; ret v0`), program(t, `let 0 = print "a"; ret v1`)
	for _, r := range []struct {
		fuel int
		want api.Errno
	}{{-1 << 63, api.ErrArg}, {-1, api.ErrArg}, {0, api.OK}, {1, api.OK}, {api.MaxFuel, api.OK}, {api.MaxFuel + 1, api.ErrArg}, {1<<63 - 1, api.ErrArg}} {
		out, e := flow.Run(may, theWorld(), r.fuel)
		if e != r.want || e != api.OK && !reflect.DeepEqual(out, api.Outcome{}) {
			t.Errorf("%d: %v, %v", r.fuel, out, e)
		}
		if out, e := flow.Run(mayNot, theWorld(), r.fuel); e != api.ErrFlow || !reflect.DeepEqual(out, api.Outcome{}) {
			t.Errorf("%d: %v, %v", r.fuel, out, e)
		}
	}
	for fuel, want := range []string{"running", "a; running", "a; exited 0", "a; exited 0"} {
		if got := told(run(t, may, fuel)); got != want {
			t.Errorf("%d: %s, not %s", fuel, got, want)
		}
	}
}

// arities are the primitives of the chapter's table, with how many arguments each has.
func arities() map[string]int {
	all := map[string]int{}
	for many, names := range []string{
		"neg rneg rfromint rfloor rbits itext size chr ord str ref get vector vlen bnew blen print eprint inputline readfile exit",
		"add sub mul div mod lt le radd rsub rmul rdiv rlt rle cat ssub slt sle clt cle eq set same vsub bget writefile", "substring bset"} {
		for _, name := range strings.Fields(names) {
			all[name] = many + 1
		}
	}
	return all
}

// P10.3: all names of the table, no other, each with its number of arguments; a map of its own for each call.
func TestPrims(t *testing.T) {
	first := flow.Prims()
	if !maps.Equal(first, arities()) || len(first) != 48 {
		t.Errorf("%v", first)
	}
	clear(first)
	first["more"] = 1
	if again := flow.Prims(); !maps.Equal(again, arities()) {
		t.Errorf("%v", again)
	}
	for name := range arities() {
		other := flow.Prims()
		delete(other, name)
		if flow.Prims()[name] != arities()[name] || flow.Check(program(t, `let 0 = `+name+strings.Repeat(" 1", arities()[name])+`; ret v0`)) != api.OK {
			t.Errorf("%s is gone", name)
		}
	}
}
