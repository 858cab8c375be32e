package data_test

import (
	"strconv"
	"strings"
	"testing"

	"smithy/api"
	"smithy/close"
	"smithy/elab"
	"smithy/match"
	"smithy/opt"
	"smithy/syntax"
	"smithy/types"
)

// flowOf are the flow of a program's text, and its smaller flow.
func flowOf(t testing.TB, text string) []api.Program {
	t.Helper()
	l, mishap := syntax.Parse(text)
	if mishap.Code != api.OK {
		t.Fatalf("%s\n%v", text, mishap)
	}
	l, _, e := types.Infer(l)
	if e != api.OK {
		t.Fatalf("%s\n%v", text, e)
	}
	c, e := elab.Core(l)
	if e != api.OK {
		t.Fatalf("%s\n%v", text, e)
	}
	c, _, e = match.Switches(c)
	if e != api.OK {
		t.Fatalf("%s\n%v", text, e)
	}
	p, e := close.Flow(c)
	if e != api.OK {
		t.Fatalf("%s\n%v", text, e)
	}
	q, e := opt.Opt(p)
	if e != api.OK {
		t.Fatalf("%s\n%v", text, e)
	}
	return []api.Program{p, q}
}

// texts are programs' texts, and what comes of them.
func texts() map[string]string {
	return map[string]string{
		"val _ = print \"hello\\n\"": "hello\n; exited 0",
		"":                           "exited 0",
		"fun f n = if n = 0 then 1 else n * f (n - 1) val _ = print (Int.toString (f 25))": "15511210043330985984000000; exited 0",
		"val x :: _ = [] : int list": "err uncaught exception Bind; exited 1",
		"structure S :> sig type t val a : t val f : t -> int end = struct type t = int val a = 41 fun f x = x + 1 end val _ = print (Int.toString (S.f S.a))": "42; exited 0",
		"fun loop n = loop (n + 1) val _ = loop 0":                                 "running",
		`val _ = (print (readFile "f")) handle Io => exit 3`:                       "data; exited 0",
		`val _ = (print (readFile "no")) handle Io => exit 3`:                      "exited 3",
		"val _ = print (Int.toString (Real.bits (0.0 / 0.0)))":                     "9221120237041090560; exited 0",
		"fun grow l = grow (1 :: l) val _ = grow []":                               "running",
		"fun f [] = 0 | f [x] = x | f [] = 1 val _ = print (Int.toString (f [7]))": "7; exited 0",
		"fun map f [] = [] | map f (x :: l) = f x :: map f l fun all [] = () | all (x :: l) = (print (Int.toString x); all l) val _ = all (map (fn x => x * x) [1, 2, 3])": "149; exited 0",
		"fun e 0 = true | e n = d (n - 1) and d 0 = false | d n = e (n - 1) val _ = if e 10 andalso d 7 then print \"yes\" else ()":                                        "yes; exited 0",
		"val r = ref 0 val _ = while !r < 3 do (print (Int.toString (!r)); r := !r + 1)":                                                                                   "012; exited 0",
		"exception E of int fun f x = (raise E x) handle E 1 => 10 | E n => n val _ = print (Int.toString (f 1 + f 2))":                                                    "12; exited 0",
		"fun compose f g x = f (g x) val twice = fn f => compose f f val _ = print (twice (twice (fn s => s ^ s)) \"a\")":                                                  "aaaaaaaaaaaaaaaa; exited 0",
		"datatype t = L | N of t * int * t fun put L x = N (L, x, L) | put (t as N (l, y, r)) x = if x < y then N (put l x, y, r) else if y < x then N (l, y, put r x) else t fun all L = \"\" | all (N (l, x, r)) = all l ^ Int.toString x ^ all r val _ = print (all (put (put (put (put L 3) 1) 2) 3))": "123; exited 0",
		"val _ = print (inputLine ()) val _ = print (inputLine ()) val _ = exit 7":                                                                                                    "one\ntwo\n; exited 7",
		"exception A exception B of string fun f n = if n = 0 then raise B \"deep\" else (f (n - 1); ()) handle A => print \"no\" val _ = f 50 handle B s => print s val _ = raise A": "deep; err uncaught exception A; exited 1",
		"fun count n = if n = 0 then 0 else 1 + count (n - 1) val _ = print (Int.toString (count 700))":                                                                               "700; exited 0",
	}
}

// P18.2: what programs' texts become does what they do, and needs no function that is too long, and few registers.
func TestTexts(t *testing.T) {
	for text, want := range texts() {
		for _, p := range flowOf(t, text) {
			holdSteps(t, p, text, want, 0)
			for _, f := range made(t, p).Funs {
				if len(f.Code) > 1<<16 || strings.HasPrefix(f.Name, "fun.") && f.Regs+f.Slots > 24 {
					t.Errorf("%s has %d instructions, %d registers, %d slots: %s", f.Name, len(f.Code), f.Regs, f.Slots, text)
				}
			}
		}
	}
}

// P18.2: a function that becomes several ones, as it is too long for one: in the middle of tries, ifs, switches.
func TestLongFunctions(t *testing.T) {
	print := func(s string, next api.Flow) api.Flow {
		return let(0, primOf("print", api.Atom{Kind: api.AtomText, Text: s}), next)
	}
	row := func(name string, next api.Flow) api.Flow {
		return chain(2600, func(i int) (int, api.Op) {
			if i%500 == 7 {
				return 0, primOf("print", api.Atom{Kind: api.AtomText, Text: name + strconv.Itoa(i) + " "})
			}
			return 3, primOf("add", local(3), whole(1))
		}, next)
	}
	shown := let(5, primOf("itext", local(3)), let(5, primOf("print", local(5)), ret(local(4))))
	inner := row("a", api.Flow{Kind: api.FlowTry, V: 1, W: 2, Kids: kids{
		row("b", api.Flow{Kind: api.FlowIf, A: api.Atom{Kind: api.AtomSmall, V: 1}, Kids: kids{tail(1, atoms{local(3)}), print("no", ret(whole(1)))}}),
		let(0, primOf("print", local(1)), api.Flow{Kind: api.FlowRaise, A: local(4)}),
		print("no", ret(whole(1)))}})
	body := let(3, primOf("add", whole(1), whole(2)), let(4, primOf("cat", api.Atom{Kind: api.AtomText, Text: "kept"}, api.Atom{Kind: api.AtomText, Text: " "}),
		api.Flow{Kind: api.FlowTry, V: 1, W: 2, Kids: kids{inner, let(0, primOf("print", local(1)), row("c", ret(local(3)))), row("d", shown)}}))
	p := api.Program{Funs: []api.Func{{Locals: 6, Body: body}, {Params: 1, Locals: 2, Body: let(1, primOf("itext", local(0)), api.Flow{Kind: api.FlowRaise, A: local(1)})}}}
	run := outcome(t, p, smallWorld())
	if run.Status != api.Exited || !strings.HasSuffix(told(run), "10379; exited 0") {
		t.Fatal(told(run))
	}
	q := made(t, p)
	parts := 0
	for _, f := range q.Funs {
		if strings.HasPrefix(f.Name, "fun.0") {
			parts++
			if len(f.Code) > 1<<16 {
				t.Error(f.Name, len(f.Code))
			}
		}
	}
	if parts < 4 {
		t.Error(parts, "parts")
	}
	holdEnd(t, p, smallWorld())
}
