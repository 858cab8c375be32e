package prim_test

import (
	"reflect"
	"strings"
	"testing"

	"smithy/api"
	"smithy/big"
	"smithy/prim"
)

func call(r *prim.Run, name string, args ...prim.Value) prim.Value {
	return prim.Primitives()[name].Do(r, args)
}

// What a program returns doesn't matter; what it raises is written, with the name that is in the cell.
func TestEnd(t *testing.T) {
	named := func(x prim.Value) prim.Value { return &prim.Cell{In: x} }
	err := func(name string) []api.Event {
		return []api.Event{{Kind: api.EventErr, Text: "uncaught exception " + name + "\n"}}
	}
	for _, r := range []struct {
		program func(r *prim.Run)
		want    api.Outcome
	}{
		{func(*prim.Run) {}, api.Outcome{Status: api.Exited}},
		{func(r *prim.Run) { r.Spend(10) }, api.Outcome{Status: api.Exited}},
		{func(r *prim.Run) { r.Spend(11) }, api.Outcome{Status: api.Running}},
		{func(r *prim.Run) { r.Spend(10); r.Step() }, api.Outcome{Status: api.Running}},
		{func(r *prim.Run) { r.Spend(0) }, api.Outcome{Status: api.Exited}},
		{func(r *prim.Run) { prim.Must(false) }, api.Outcome{Status: api.Stuck}},
		{func(r *prim.Run) { prim.Must(true) }, api.Outcome{Status: api.Exited}},
		{func(r *prim.Run) { call(r, "exit", number(7)) }, api.Outcome{Status: api.Exited, Code: 7}},
		{func(r *prim.Run) { panic("something else") }, api.Outcome{Status: api.Stuck}},
		{func(r *prim.Run) { prim.Raise(prim.Pack(named(text("E")), small(0))) }, api.Outcome{Status: api.Exited, Code: 1, Trace: err("E")}},
		{func(r *prim.Run) { prim.Raise(block(7, named(text("")), small(0))) }, api.Outcome{Status: api.Exited, Code: 1, Trace: err("")}},
		{func(r *prim.Run) { prim.Raise(prim.Pack(named(text("E")))) }, api.Outcome{Status: api.Exited, Code: 1, Trace: err("E")}},
		{func(r *prim.Run) { prim.Raise(prim.Pack(named(number(1)), small(0))) }, api.Outcome{Status: api.Exited, Code: 1, Trace: err("?")}},
		{func(r *prim.Run) { prim.Raise(prim.Pack(text("E"))) }, api.Outcome{Status: api.Exited, Code: 1, Trace: err("?")}},
		{func(r *prim.Run) { prim.Raise(prim.Unit()) }, api.Outcome{Status: api.Exited, Code: 1, Trace: err("?")}},
		{func(r *prim.Run) { prim.Raise(text("E")) }, api.Outcome{Status: api.Exited, Code: 1, Trace: err("?")}},
	} {
		run := prim.New(api.World{}, 10)
		if got := run.Outcome(func() { r.program(run) }); !reflect.DeepEqual(got, r.want) {
			t.Errorf("%+v, not %+v", got, r.want)
		}
	}
}

func TestBuiltIn(t *testing.T) {
	r, other := prim.New(api.World{}, 0), prim.New(api.World{}, 0)
	for i, name := range strings.Fields("Match Bind Div Subscript Size Io Domain Chr") {
		out := prim.New(api.World{}, 0)
		if got := out.Outcome(func() { out.RaiseBuiltIn(i) }); got.Code != 1 || got.Trace[0].Text != "uncaught exception "+name+"\n" {
			t.Errorf("%d: %+v", i, got)
		}
		if r.BuiltIn()[i] == other.BuiltIn()[i] || r.BuiltIn()[i] != r.BuiltIn()[i] || told(r.BuiltIn()[i]) != `cell("`+name+`")` {
			t.Errorf("%d: the cell of another run", i)
		}
		_, raised := prim.Try(func() prim.Value { return r.RaiseBuiltIn(i) })
		if b := raised.Value.(*prim.Block); b.Fields[0] != prim.Value(r.BuiltIn()[i]) || told(b) != `<0 cell("`+name+`") #0>` {
			t.Errorf("%d: %s", i, told(b))
		}
	}
	if got := []int{api.ExnMatch, api.ExnBind, api.ExnDiv, api.ExnSubscript, api.ExnSize, api.ExnIo, api.ExnDomain, api.ExnChr}; !reflect.DeepEqual(got, []int{0, 1, 2, 3, 4, 5, 6, 7}) {
		t.Error(got)
	}
}

// What is raised is caught; that a run is over is not.
func TestTry(t *testing.T) {
	if x, raised := prim.Try(func() prim.Value { return small(3) }); raised != nil || told(x) != "#3" {
		t.Error(x, raised)
	}
	if x, raised := prim.Try(func() prim.Value { return prim.Raise(small(4)) }); x != nil || told(raised.Value) != "#4" {
		t.Error(x, raised)
	}
	for want, over := range map[string]func(r *prim.Run) prim.Value{
		"running":  func(r *prim.Run) prim.Value { r.Step(); return nil },
		"stuck":    func(r *prim.Run) prim.Value { prim.Must(false); return nil },
		"exited 9": func(r *prim.Run) prim.Value { return call(r, "exit", number(9)) },
	} {
		r := prim.New(api.World{}, 0)
		func() {
			defer func() {
				if got := threw(r, recover()); got != want {
					t.Errorf("%s, not %s", got, want)
				}
			}()
			prim.Try(func() prim.Value {
				prim.Try(func() prim.Value { return over(r) })
				return nil
			})
			t.Errorf("%s: it goes on", want)
		}()
	}
}

func TestExit(t *testing.T) {
	for a, want := range map[string]string{"0": "exited 0", "3": "exited 3", "255": "exited 255", "256": "exited 0", "~1": "exited 255", "~256": "exited 0", "~300": "exited 212", "18446744073709551621": "exited 5"} {
		hold(t, []row{{"exit", v{huge(a)}, want}})
	}
}

// The primitives that meet the world: what they do to it, and what is not done where the steps are spent.
func TestWorld(t *testing.T) {
	long := strings.Repeat("l", 64)
	w := api.World{Stdin: "one\n" + long + "\nend", Files: []api.File{{Name: "f", Data: "data"}, {Name: "long", Data: strings.Repeat("d", api.MaxString)}, {Name: "longer", Data: strings.Repeat("d", api.MaxString+1)}}}
	r := prim.New(w, 2000)
	for _, step := range []row{
		{"inputline", v{prim.Unit()}, `"one\n"`},
		{"inputline", v{some{}}, `"` + long + `\n"`},
		{"inputline", v{number(1)}, `"end"`},
		{"inputline", v{prim.Unit()}, `""`},
		{"readfile", v{text("f")}, `"data"`},
		{"readfile", v{text("g")}, "raises Io"},
		{"readfile", v{text("")}, "raises Io"},
		{"readfile", v{text(strings.Repeat("n", 256))}, "raises Io"},
		{"readfile", v{text("longer")}, "raises Io"},
		{"writefile", v{text("g"), text("new")}, "<0>"},
		{"readfile", v{text("g")}, `"new"`},
		{"writefile", v{text("f"), text("")}, "<0>"},
		{"readfile", v{text("f")}, `""`},
		{"writefile", v{text(""), text("x")}, "raises Io"},
		{"writefile", v{text("a\x00b"), text("x")}, "raises Io"},
		{"writefile", v{text(strings.Repeat("n", 256)), text("x")}, "raises Io"},
		{"writefile", v{text(strings.Repeat("n", 255)), text("x")}, "<0>"},
		{"print", v{text("a")}, "<0>"},
		{"print", v{text("")}, "<0>"},
		{"print", v{text("b\x00")}, "<0>"},
		{"eprint", v{text("c")}, "<0>"},
	} {
		// what is raised here is told by another run: it writes to its world
		if got := doneIn(r, step); got != step.want {
			t.Errorf("%s: %s, not %s", step.name, got, step.want)
		}
	}
	want := []api.Event{
		{Kind: api.EventWrite, Name: "g", Text: "new"}, {Kind: api.EventWrite, Name: "f"}, {Kind: api.EventWrite, Name: strings.Repeat("n", 255), Text: "x"},
		{Kind: api.EventOut, Text: "ab\x00"}, {Kind: api.EventErr, Text: "c"},
	}
	if got := r.Outcome(func() {}); !reflect.DeepEqual(got.Trace, want) {
		t.Errorf("%+v", got.Trace)
	}
	if got := cost("readfile", v{text("f")}); got != 0 {
		t.Errorf("%d steps", got)
	}
	for fuel, want := range map[int]string{1023: "running", 1024: `"` + strings.Repeat("d", api.MaxString) + `"`} {
		if got := doneIn(prim.New(w, fuel), row{name: "readfile", args: v{text("long")}}); got != want {
			t.Errorf("%d: %.100s", fuel, got)
		}
	}
}

func doneIn(r *prim.Run, step row) (got string) {
	defer func() {
		if thrown := recover(); thrown != nil {
			got = strings.TrimSuffix(threw(prim.New(api.World{}, 0), thrown), "\n")
		}
	}()
	return told(call(r, step.name, step.args...))
}

// A line that is too long is read, and raises Size.
func TestLongLine(t *testing.T) {
	most := strings.Repeat("x", api.MaxString-1) + "\n"
	r := prim.New(api.World{Stdin: most + "x" + most + "next"}, 2000)
	for _, want := range []string{told(text(most)), "raises Size", `"next"`, `""`} {
		if got := doneIn(r, row{name: "inputline", args: v{prim.Unit()}}); got != want {
			t.Errorf("%.100s, not %.100s", got, want)
		}
	}
	if got := doneIn(prim.New(api.World{Stdin: most}, 1023), row{name: "inputline", args: v{prim.Unit()}}); got != "running" {
		t.Errorf("%.100s", got)
	}
	if got := doneIn(prim.New(api.World{Stdin: "x" + most}, 0), row{name: "inputline", args: v{prim.Unit()}}); got != "raises Size" {
		t.Errorf("%.100s", got)
	}
}

// What is written is paid for ahead.
func TestPaidAhead(t *testing.T) {
	long := text(strings.Repeat("p", 128))
	for name, args := range map[string]v{"print": {long}, "eprint": {long}, "writefile": {text("f"), long}} {
		for fuel := range 4 {
			r := prim.New(api.World{Files: []api.File{{Name: "f", Data: "old"}}}, fuel)
			out := r.Outcome(func() { call(r, name, args...) })
			if wrote := len(out.Trace) > 0; wrote != (fuel >= 2) || wrote != (out.Status == api.Exited) {
				t.Errorf("%s, %d: %+v", name, fuel, out)
			}
		}
	}
}

// A run's integers share nothing with those that are handed in.
func TestArgumentsStay(t *testing.T) {
	a, b := limbs(20, false).(api.Int), limbs(20, true).(api.Int)
	x, y := big.Norm(a), big.Norm(b)
	for name, p := range prim.Primitives() {
		if p.Many == 2 && name != "set" {
			done(prim.New(api.World{}, 100), name, v{a, b})
		}
		if p.Many == 1 {
			done(prim.New(api.World{}, 100), name, v{a})
		}
	}
	if !reflect.DeepEqual(a, x) || !reflect.DeepEqual(b, y) {
		t.Error("an argument was written")
	}
}
