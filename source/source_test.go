package source_test

import (
	"reflect"
	"strconv"
	"strings"
	"testing"

	"smithy/api"
	"smithy/source"
	"smithy/syntax"
	"smithy/types"
)

// typed are the declarations of a program, as Infer has answered them.
func typed(t *testing.T, program string) []api.Dec {
	t.Helper()
	l, m := syntax.Parse(program)
	if m.Code != api.OK {
		t.Fatalf("%.300s: %v", program, m)
	}
	l, _, e := types.Infer(l)
	if e != api.OK {
		t.Fatalf("%.300s: %v", program, e)
	}
	return l
}

func outcome(t *testing.T, l []api.Dec, w api.World, fuel int) api.Outcome {
	t.Helper()
	out, e := source.Run(l, w, fuel)
	if e != api.OK {
		t.Fatalf("%d steps: %v", fuel, e)
	}
	return out
}

// told is an outcome as a text: what was put out, behind a ! what was put to the error output, in brackets what was
// written to files; then the code, if it is not 0, or how else the run is over.
func told(out api.Outcome) string {
	s := ""
	for _, e := range out.Trace {
		switch e.Kind {
		case api.EventOut:
			s += e.Text
		case api.EventErr:
			s += "!" + strings.TrimSuffix(e.Text, "\n")
		case api.EventWrite:
			s += "[" + e.Name + ": " + e.Text + "]"
		}
	}
	switch {
	case out.Status == api.Running:
		s += " .."
	case out.Status == api.Stuck:
		s += " stuck"
	case out.Code != 0:
		s += " =" + strconv.Itoa(out.Code)
	}
	if out.Status != api.Exited && out.Code != 0 {
		s += " with a code"
	}
	return s
}

// theWorld is that of most tests.
func theWorld() api.World {
	return api.World{Stdin: "one\ntwo", Files: []api.File{{Name: "f", Data: "data"}, {Name: "long", Data: strings.Repeat("d", api.MaxString)}, {Name: "longer", Data: strings.Repeat("d", api.MaxString+1)}}}
}

type row struct{ program, want string }

func hold(t *testing.T, rows []row) {
	t.Helper()
	for _, r := range rows {
		if got := told(outcome(t, typed(t, r.program), theWorld(), api.MaxFuel)); got != r.want {
			t.Errorf("%.400s\n got  %.200s\n want %.200s", r.program, got, r.want)
		}
	}
}

const uncaught = "!uncaught exception "

// The document's examples.
func TestExamples(t *testing.T) {
	hold(t, []row{
		{"fun f n = if n = 0 then 1 else n * f (n - 1) val _ = print (Int.toString (f 25))", "15511210043330985984000000"},
		{"val x :: _ = [] : int list", uncaught + "Bind =1"},
		{"exception E of int val _ = (raise E 3) handle E n => exit n", " =3"},
		{"val _ = print (Int.toString (Real.bits (0.0 / 0.0)))", "9221120237041090560"},
		{`val r = ref 0 val _ = while !r < 3 do (print "x"; r := !r + 1)`, "xxx"},
		{"val _ = print \"hello\\n\"", "hello\n"},
		{"structure S :> sig type t val a : t val f : t -> int end = struct type t = int val a = 41 fun f x = x + 1 end val _ = print (Int.toString (S.f S.a))", "42"},
		{"fun loop n = loop (n + 1) val _ = loop 0", " .."},
		{`val _ = (print (readFile "f")) handle Io => exit 3`, "data"},
		{`val _ = (print (readFile "g")) handle Io => exit 3`, " =3"},
		{"fun grow l = grow (1 :: l) val _ = grow []", " .."},
		{"fun f [] = 0 | f [x] = x | f [] = 1 val _ = print (Int.toString (f [7]))", "7"},
		{`val x = fn true => 1 val y = x false`, uncaught + "Match =1"},
		{"structure S = struct datatype t = A | B of int fun f A = 1 | f (B n) = n end val _ = print (Int.toString (S.f (S.B 40) + S.f S.A))", "41"},
	})
	one := typed(t, "val a = 1")
	if got := outcome(t, one, api.World{}, 0); !reflect.DeepEqual(got, api.Outcome{Status: api.Running}) {
		t.Errorf("%+v", got)
	}
	if got := outcome(t, one, api.World{}, 1); !reflect.DeepEqual(got, api.Outcome{Status: api.Exited}) {
		t.Errorf("%+v", got)
	}
}

// P6.1: ErrArg, unless fuel is 0 to MaxFuel, whatever the program; with it the zero outcome.
func TestFuel(t *testing.T) {
	ring := make([]api.Dec, 1)
	ring[0] = api.Dec{Kind: api.DecStruct, Decs: ring}
	for _, l := range [][]api.Dec{nil, {}, typed(t, `val _ = print "a"`), {{Kind: 77}}, ring} {
		for _, fuel := range []int{-1, -1 << 63, api.MaxFuel + 1, 1<<63 - 1} {
			if out, e := source.Run(l, theWorld(), fuel); e != api.ErrArg || !reflect.DeepEqual(out, api.Outcome{}) {
				t.Errorf("%d: %+v, %v", fuel, out, e)
			}
		}
		for _, fuel := range []int{0, 1, api.MaxFuel} {
			if _, e := source.Run(l, theWorld(), fuel); e != api.OK {
				t.Errorf("%d: %v", fuel, e)
			}
		}
	}
	for _, fuel := range []int{0, api.MaxFuel} {
		if out := outcome(t, nil, theWorld(), fuel); !reflect.DeepEqual(out, api.Outcome{Status: api.Exited}) {
			t.Errorf("%+v", out)
		}
	}
	loop := typed(t, `val _ = while true do print "a"`) // the while, true, print "a": 3, true, 3 ..
	for fuel, want := range map[int]int{0: 0, 1: 0, 4: 0, 5: 1, 8: 1, 9: 2, api.MaxFuel: 4999} {
		out := outcome(t, loop, theWorld(), fuel)
		if got := strings.TrimSuffix(told(out), " .."); out.Status != api.Running || got != strings.Repeat("a", want) {
			t.Errorf("%d: %d times", fuel, len(got))
		}
	}
}

// P6.1: the world that is handed in is the one that is met.
func TestWorlds(t *testing.T) {
	const program = `val _ = print (inputLine ()) val _ = print (inputLine ()) val _ = print (inputLine ())
		val _ = print (readFile "f" handle Io => "none") val _ = writeFile ("f", "new") val _ = print (readFile "f")`
	l := typed(t, program)
	for _, r := range []struct {
		w    api.World
		want string
	}{
		{api.World{}, "none[f: new]new"},
		{api.World{Stdin: "a\nb\nc\nd"}, "a\nb\nc\nnone[f: new]new"},
		{api.World{Stdin: "a"}, "anone[f: new]new"},
		{api.World{Stdin: "\n\n"}, "\n\nnone[f: new]new"},
		{api.World{Files: []api.File{{Name: "g", Data: "1"}, {Name: "f", Data: "2"}, {Name: "f", Data: "3"}}}, "2[f: new]new"},
		{api.World{Files: []api.File{{Name: "f"}}}, "[f: new]new"},
	} {
		if got := told(outcome(t, l, r.w, 1000)); got != r.want {
			t.Errorf("%+v: %q", r.w, got)
		}
	}
	want := []api.Event{{Kind: api.EventOut, Text: "none"}, {Kind: api.EventWrite, Name: "f", Text: "new"}, {Kind: api.EventOut, Text: "new"}}
	if got := outcome(t, l, api.World{}, 1000); !reflect.DeepEqual(got.Trace, want) {
		t.Errorf("%+v", got.Trace)
	}
}

// What isn't caught is written by its name; exit ends with any code.
func TestEnds(t *testing.T) {
	hold(t, []row{
		{"", ""},
		{"val _ = 1", ""},
		{"exception E val _ = raise E", uncaught + "E =1"},
		{"exception E of int val _ = raise E 7", uncaught + "E =1"},
		{"exception E'1 val _ = raise E'1", uncaught + "E'1 =1"},
		{"structure S = struct exception In of string end val _ = raise S.In \"x\"", uncaught + "In =1"},
		{`val _ = (print "a"; raise Div; print "b") val _ = print "c"`, "a" + uncaught + "Div =1"},
		{"val _ = raise Match", uncaught + "Match =1"},
		{"val _ = raise Bind", uncaught + "Bind =1"},
		{"val _ = raise Subscript", uncaught + "Subscript =1"},
		{"val _ = raise Size", uncaught + "Size =1"},
		{"val _ = raise Io", uncaught + "Io =1"},
		{"val _ = raise Domain", uncaught + "Domain =1"},
		{"val _ = raise Chr", uncaught + "Chr =1"},
		{"exception Div val _ = raise Div", uncaught + "Div =1"},
		{"exception Div val _ = 1 div 0 handle Div => 2", uncaught + "Div =1"},
		{"structure S = struct val x = 1 div 0 end val _ = print \"a\"", uncaught + "Div =1"},
		{"fun f () = let val x = raise Chr in x end val _ = f ()", uncaught + "Chr =1"},
		{"val _ = exit 0 val _ = print \"a\"", ""},
		{"val _ = exit 1", " =1"},
		{"val _ = exit 255", " =255"},
		{"val _ = exit 256", ""},
		{"val _ = exit 511", " =255"},
		{"val _ = exit ~1", " =255"},
		{"val _ = exit ~256", ""},
		{"val _ = exit ~257", " =255"},
		{"val _ = exit 123456789012345678901234567890", " =210"},
		{"val _ = exit (~123456789012345678901234567890)", " =46"},
		{`val _ = (print "a"; exit 7; print "b") handle _ => print "c"`, "a =7"},
		{`val _ = 1 + (exit 7) handle _ => 8`, " =7"},
		{`fun f () = exit 9 val x : int = f () val _ = print "a"`, " =9"},
	})
}

// P6.5: with more steps a program has done no less; once it has ended it has ended.
func TestMoreSteps(t *testing.T) {
	for _, program := range []string{
		`val _ = print "a" val _ = print "b" val _ = writeFile ("f", "c") val _ = print "d"`,
		`fun f n = if n = 0 then raise Div else (print "x"; f (n - 1)) val _ = f 3 handle Div => print "y" val _ = raise Chr`,
		`val r = ref 0 val _ = while !r < 4 do (print (Int.toString (!r)); r := !r + 1) val _ = exit 5`,
		`val s = "` + strings.Repeat("s", 200) + `" val _ = print (s ^ s) val _ = writeFile ("g", s) val _ = print (readFile "g")`,
		`fun loop n = (print "."; loop (n + 1)) val _ = loop 0`,
		`val l = [1, 2, 3, 4] val _ = if l = [1, 2, 3, 4] then print "same" else () val _ = print (inputLine () ^ inputLine ())`,
	} {
		l := typed(t, program)
		last := outcome(t, l, theWorld(), 0)
		for fuel := 1; fuel <= 300; fuel++ {
			out := outcome(t, l, theWorld(), fuel)
			switch {
			case last.Status == api.Exited && !reflect.DeepEqual(out, last):
				t.Fatalf("%s\n%d steps: %+v behind %+v", program, fuel, out, last)
			case !isBeginning(last.Trace, out.Trace):
				t.Fatalf("%s\n%d steps: %+v behind %+v", program, fuel, out, last)
			}
			last = out
		}
		if out := outcome(t, l, theWorld(), api.MaxFuel); last.Status == api.Exited && !reflect.DeepEqual(out, last) {
			t.Errorf("%s: %+v", program, out)
		}
	}
}

// isBeginning tells whether a trace is the beginning of another one.
func isBeginning(a, b []api.Event) bool {
	if len(a) == 0 || len(a) > len(b) {
		return len(a) == 0
	}
	n := len(a) - 1
	last := b[n]
	return reflect.DeepEqual(a[:n], b[:n]) && last.Kind == a[n].Kind && last.Name == a[n].Name && strings.HasPrefix(last.Text, a[n].Text)
}

// parsedOnly are a program's declarations, with types if it has some.
func parsedOnly(t *testing.T, program string) []api.Dec {
	t.Helper()
	l, m := syntax.Parse(program)
	if m.Code != api.OK {
		t.Fatalf("%.300s: %v", program, m)
	}
	if typed, _, e := types.Infer(l); e == api.OK {
		return typed
	}
	return l
}
