package core_test

import (
	"fmt"
	"reflect"
	"strings"
	"testing"

	"smithy/api"
	"smithy/core"
)

// longer is one byte more than a text may have.
var longer = strings.Repeat("d", api.MaxString+1)

// theWorld is one with input and files.
func theWorld() api.World {
	return api.World{Stdin: "one\ntwo\n\nend", Files: []api.File{{Name: "f", Data: "data"}, {Name: "long", Data: longer[1:]}, {Name: "longer", Data: longer}}}
}

// smallWorld is one whose files are short.
func smallWorld() api.World {
	return api.World{Stdin: "one\ntwo\n\nend", Files: []api.File{{Name: "f", Data: "data"}, {Name: "a"}}}
}

// run is the outcome of a term that may be.
func run(t testing.TB, c api.Core, fuel int) api.Outcome {
	t.Helper()
	return runIn(t, c, theWorld(), fuel)
}

func runIn(t testing.TB, c api.Core, w api.World, fuel int) api.Outcome {
	t.Helper()
	out, e := core.Run(c, w, fuel)
	if e != api.OK {
		t.Fatalf("%.300s: %v", shown(c), e)
	}
	return out
}

// told is an outcome as a text: what was written, then how it ended.
func told(out api.Outcome) string {
	var b strings.Builder
	for _, e := range out.Trace {
		switch e.Kind {
		case api.EventOut:
			fmt.Fprintf(&b, "%s; ", e.Text)
		case api.EventErr:
			fmt.Fprintf(&b, "err %s; ", strings.TrimSuffix(e.Text, "\n"))
		case api.EventWrite:
			fmt.Fprintf(&b, "file %s %s; ", e.Name, e.Text)
		}
	}
	switch {
	case out.Status == api.Exited:
		fmt.Fprintf(&b, "exited %d", out.Code)
	case out.Code != 0:
		fmt.Fprintf(&b, "code %d of a run that has not ended", out.Code)
	case out.Status == api.Stuck:
		b.WriteString("stuck")
	default:
		b.WriteString("running")
	}
	return b.String()
}

// steps is how many steps a term takes to come to its end.
func steps(t testing.TB, c api.Core) int {
	t.Helper()
	for n := range api.MaxFuel {
		if run(t, c, n).Status != api.Running {
			return n
		}
	}
	return api.MaxFuel
}

// row is a term, what comes of it, and how many steps that takes.
type row struct {
	term  string
	want  string
	steps int
}

// hold holds terms against what should come of them, with enough steps, and with one less.
func hold(t *testing.T, rows []row) {
	t.Helper()
	for _, r := range rows {
		c := term(t, r.term)
		if got := told(run(t, c, api.MaxFuel)); got != r.want {
			t.Errorf("%s: %.200s, not %.200s", r.term, got, r.want)
		}
		if got := steps(t, c); got != r.steps {
			t.Errorf("%s: %d steps, not %d", r.term, got, r.steps)
		}
	}
}

// The chapter's examples.
func TestExamples(t *testing.T) {
	hold(t, []row{
		{`(print (itext 7))`, "7; exited 0", 3},
		{`(rec (f (fn n (if (le n 0) 1 (mul n (f (sub n 1)))))) (print (itext (f 5))))`, "120; exited 0", 66},
		{`(case 1 (| 1 (print "a")) (print "b"))`, "a; exited 0", 4},
		{`(raise 1)`, "err uncaught exception ?; exited 1", 2},
	})
	if got := told(run(t, term(t, `(print (itext 7))`), 2)); got != "running" {
		t.Error(got)
	}
	for _, c := range []api.Core{{Kind: api.CoreVar, Name: "x"}, term(t, "(print 1 2)"), {Kind: api.CoreLet, Kids: []api.Core{term(t, "1"), term(t, "2")}}} {
		if e := core.Check(c); e != api.ErrCore {
			t.Errorf("%v: %v", c, e)
		}
		if out, e := core.Run(c, api.World{}, 10); e != api.ErrCore || !reflect.DeepEqual(out, api.Outcome{}) {
			t.Errorf("%v: %v, %v", c, out, e)
		}
	}
}

// P7.3: ErrCore comes ahead of ErrArg; with an error the outcome is the zero one.
func TestFuel(t *testing.T) {
	may, mayNot := term(t, `(let u (print "a") 1)`), term(t, "x")
	for _, r := range []struct {
		fuel int
		want api.Errno
	}{{-1 << 62, api.ErrArg}, {-1, api.ErrArg}, {0, api.OK}, {1, api.OK}, {api.MaxFuel, api.OK}, {api.MaxFuel + 1, api.ErrArg}, {1 << 62, api.ErrArg}} {
		out, e := core.Run(may, theWorld(), r.fuel)
		if e != r.want || e != api.OK && !reflect.DeepEqual(out, api.Outcome{}) {
			t.Errorf("%d: %v, %v", r.fuel, out, e)
		}
		if out, e := core.Run(mayNot, theWorld(), r.fuel); e != api.ErrCore || !reflect.DeepEqual(out, api.Outcome{}) {
			t.Errorf("%d: %v, %v", r.fuel, out, e)
		}
	}
	for fuel, want := range []string{"running", "running", "running", "a; running", "a; exited 0", "a; exited 0"} {
		if got := told(run(t, may, fuel)); got != want {
			t.Errorf("%d: %s, not %s", fuel, got, want)
		}
	}
}
