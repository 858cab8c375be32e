package core_test

import (
	"strings"
	"testing"
)

// P7.3: each kind of term, the order in which its parts are done, and the steps that they take.
func TestKinds(t *testing.T) {
	hold(t, []row{
		{`1`, "exited 0", 1},
		{`#7`, "exited 0", 1},
		{`%1.5`, "exited 0", 1},
		{`"a"`, "exited 0", 1},
		{`!0`, "exited 0", 1},
		{`(print (itext ~123456789012345678901234567890))`, "~123456789012345678901234567890; exited 0", 3},
		{`(print (itext (ord #1073741823)))`, "1073741823; exited 0", 4},
		{`(print (itext (rbits %1.5)))`, "4609434218613702656; exited 0", 4},
		{`(print "abc")`, "abc; exited 0", 2},
		{`(print (get !2))`, "Div; exited 0", 3},

		{`(fn x (print "no"))`, "exited 0", 1},
		{`((fn x (print x)) "a")`, "a; exited 0", 5},
		{`((print "f") (print "a"))`, "fa; stuck", 5},
		{`(((fn x (fn y (print x))) "a") "b")`, "a; exited 0", 8},
		{`((let u (print "f") (fn x (print "b"))) (print "a"))`, "fab; exited 0", 9},

		{`(let x "a" (print x))`, "a; exited 0", 4},
		{`(let x (print "a") (print "b"))`, "ab; exited 0", 5},

		{`[0]`, "exited 0", 1},
		{`[5 (print "a") (print "b") (print "c")]`, "abc; exited 0", 7},
		{`(print (field 1 [5 "a" "b" "c"]))`, "b; exited 0", 6},
		{`(print (field 0 [0 "a"]))`, "a; exited 0", 4},

		{`(if (let u (print "c") #1) (print "t") (print "f"))`, "ct; exited 0", 7},
		{`(if #0 (print "t") (print "f"))`, "f; exited 0", 4},
		{`(if #1073741823 (print "t") (print "f"))`, "t; exited 0", 4},
		{`(if (lt 1 2) (print "t") (print "f"))`, "t; exited 0", 6},

		{`(raise (print "a"))`, "a; err uncaught exception ?; exited 1", 3},
		{`(print (cat "a" (raise "b")))`, "err uncaught exception ?; exited 1", 5},

		{`(handle (print "a") x (print "b"))`, "a; exited 0", 3},
		{`(handle (raise "a") x (print x))`, "a; exited 0", 5},
		{`(handle (let u (print "a") (raise "b")) x (print x))`, "ab; exited 0", 8},
		{`(print (handle (cat "a" (raise "b")) x x))`, "b; exited 0", 7},

		{`(print (cat (let u (print "1") "a") (let u (print "2") "b")))`, "12ab; exited 0", 10},
		{`(print (substring (let u (print "1") "abc") (let u (print "2") 1) (let u (print "3") 2)))`, "123bc; exited 0", 14},
	})
}

// A name is the innermost one; it is gone behind what it is bound in.
func TestNames(t *testing.T) {
	hold(t, []row{
		{`(let x "a" (let x "b" (print x)))`, "b; exited 0", 6},
		{`(let x "a" (let y (let x "b" x) (print (cat x y))))`, "ab; exited 0", 10},
		{`(let x "a" (let x (cat x "b") (print x)))`, "ab; exited 0", 8},
		{`(let x "a" ((fn x (print x)) "b"))`, "b; exited 0", 7},
		{`(let x "a" (let f (fn y (print x)) (let x "b" (f "c"))))`, "a; exited 0", 11},
		{`(let x "a" (let f (fn y x) (let x "b" (print (cat (f 0) x)))))`, "ab; exited 0", 13},
		{`(let x "a" (handle (raise "b") x (print x)))`, "b; exited 0", 7},
		{`(let x "a" (handle (let x "b" (raise x)) y (print (cat x y))))`, "ab; exited 0", 11},
		{`(let x "a" (rec (x (fn x (print x))) (x "b")))`, "b; exited 0", 8},
		{`(let x "a" (case "b" (| x (print x)) 0))`, "b; exited 0", 6},
		{`(let x "a" (case [0 "b" 1] (| [0/1 x 2] (print x)) (print x)))`, "a; exited 0", 8},
		{`(let x "a" (case [0 "b" 1] (| [0/1 x 2] (print x)) (| y (print x)) 0))`, "a; exited 0", 8},
		{`(rec (f (fn x (print "a"))) (rec (f (fn x (print "b"))) (f 0)))`, "b; exited 0", 7},
		{`(rec (f (fn f f)) (print (f "a")))`, "a; exited 0", 6},
	})
}

// A rec's functions know each other; its last kid knows them all. They are not worked out: only what is gone on with is.
func TestRec(t *testing.T) {
	const even = `(rec (even (fn n (if (le n 0) "even" (odd (sub n 1))))) (odd (fn n (if (le n 0) "odd" (even (sub n 1))))) `
	hold(t, []row{
		{even + `(print (even 0)))`, "even; exited 0", 10},
		{even + `(print (even 7)))`, "odd; exited 0", 73},
		{even + `(print (cat (odd 2) (odd 3))))`, "oddeven; exited 0", 64},
		{`(rec (a (fn x (b "a"))) (b (fn x (c (cat x "b")))) (c (fn x (print (cat x "c")))) (a 0))`, "abc; exited 0", 16},
		{`(rec (f (fn x 1)) 2)`, "exited 0", 2},
		{`(rec (f (fn x 1)) (g (fn x 1)) (h (fn x 1)) 2)`, "exited 0", 2},
		{`(rec (f (fn x 1)) f)`, "exited 0", 2},
		{`(let y "a" (rec (f (fn x y)) (let y "b" (print (f 0)))))`, "a; exited 0", 10},
		{`(let g (rec (f (fn x (if (le x 0) (print "end") (f (sub x 1))))) f) (g 2))`, "end; exited 0", 30},
		{`(rec (f (fn x (fn y (if (le x 0) y ((f (sub x 1)) (cat y "."))))) ) (print ((f 2) "a")))`, "a..; exited 0", 41},
	})
	if got := told(run(t, term(t, `(rec (f (fn x (f x))) (f 0))`), 20000)); got != "running" {
		t.Error(got)
	}
	if got := told(run(t, term(t, `(rec (f (fn x (let u (f x) u))) (f 0))`), 20000)); got != "running" {
		t.Error(got)
	}
}

// A switch goes by a number, by a tag, or by its last kid.
func TestSwitch(t *testing.T) {
	const rest = ` 0: (print "a") 7: (print "b") 1073741823: (print "c") (print "else"))`
	hold(t, []row{
		{`(switch #0` + rest, "a; exited 0", 4},
		{`(switch #7` + rest, "b; exited 0", 4},
		{`(switch #1073741823` + rest, "c; exited 0", 4},
		{`(switch #1` + rest, "else; exited 0", 4},
		{`(switch [0]` + rest, "a; exited 0", 4},
		{`(switch [7 1 2]` + rest, "b; exited 0", 6},
		{`(switch [8 1 2]` + rest, "else; exited 0", 6},
		{`(switch (let u (print "s") [1073741823 0])` + rest, "sc; exited 0", 8},
		{`(switch #5 (print "else"))`, "else; exited 0", 4},
		{`(switch [5] (print "else"))`, "else; exited 0", 4},
		{`(switch 7` + rest, "stuck", 2},
		{`(switch "" (print "else"))`, "stuck", 2},
	})
}

// What is raised is a handler's value, whatever it is; what the handler raises is not its own.
func TestHandlers(t *testing.T) {
	hold(t, []row{
		{`(handle (raise 7) x (print (itext x)))`, "7; exited 0", 6},
		{`(handle (raise #65) x (print (str x)))`, "A; exited 0", 6},
		{`(handle (raise %1.5) x (print (itext (rfloor x))))`, "1; exited 0", 7},
		{`(handle (raise [1 "a"]) x (print (field 0 x)))`, "a; exited 0", 7},
		{`(handle (raise (fn y (print y))) x (x "a"))`, "a; exited 0", 8},
		{`(handle (raise (ref "a")) x (print (get x)))`, "a; exited 0", 7},
		{`(handle (raise (vector #0)) x (print (itext (vlen x))))`, "0; exited 0", 8},
		{`(handle (raise (bnew 3)) x (print (itext (blen x))))`, "3; exited 0", 8},
		{`(handle (raise !3) x (print (get x)))`, "Subscript; exited 0", 6},
		{`(handle (div 1 0) x (print (get (field 0 x))))`, "Div; exited 0", 8},
		{`(handle (div 1 0) x (print (itext (ord (field 1 x)))))`, "0; exited 0", 9},
		{`(handle (div 1 0) x (switch x 0: (print "block of tag 0") 0))`, "block of tag 0; exited 0", 8},
		{`(handle (handle (raise "a") x (raise (cat x "b"))) y (print y))`, "ab; exited 0", 10},
		{`(handle (handle (print "a") x (print "b")) y (print "c"))`, "a; exited 0", 4},
		{`(let u (handle (print "a") x (print "b")) (raise "c"))`, "a; err uncaught exception ?; exited 1", 6},
		{`(handle (let f (handle (fn z (raise z)) x (print "no")) (f "a")) y (print y))`, "a; exited 0", 11},
		{`((handle (raise (fn z (print z))) x x) "a")`, "a; exited 0", 8},
		{`(handle (raise (raise "a")) x (print x))`, "a; exited 0", 6},
		{`(handle (raise (let u (print "in") "a")) x (print x))`, "ina; exited 0", 8},
		{`(handle (print (cat "a" (raise "b"))) x (print (cat "c" x)))`, "cb; exited 0", 10},
		{`(handle [0 (print "a") (raise "b") (print "c")] x (print x))`, "ab; exited 0", 8},
		{`(handle (exit 3) x (print "no"))`, "exited 3", 3},
		{`(handle (1 1) x (print "no"))`, "stuck", 4},
		{`(let c (ref "a") (let u (handle (let u (set c "b") (raise 0)) x 0) (print (get c))))`, "b; exited 0", 15},
	})
	if got := told(run(t, term(t, `(rec (f (fn x (handle (f x) y (print "no")))) (f 0))`), 20000)); got != "running" {
		t.Error(got)
	}
}

// What no rule says how to go on with is stuck; what stands ahead of it is done.
func TestStuck(t *testing.T) {
	for _, v := range []string{`1`, `%1.5`, `"a"`, `#1`, `[0 1]`, `!1`, `(ref 1)`, `(vector #0)`, `(bnew 1)`, `(fn x x)`} {
		isFunction, isBlock, isSmall := strings.HasPrefix(v, "(fn"), v[0] == '[', v[0] == '#'
		for with, may := range map[string]bool{
			`((let u (print "a") ` + v + `) (print "b"))`:                         isFunction,
			`(field 0 (let u (print "a") (let w (print "b") ` + v + `)))`:         isBlock,
			`(if (let u (print "ab") ` + v + `) 1 2)`:                             isSmall,
			`(switch (let u (print "ab") ` + v + `) 1: 1 2)`:                      isSmall || isBlock,
			`(switch (let u (print "ab") ` + v + `) 1)`:                           isSmall || isBlock,
			`(case (let u (print "ab") ` + v + `) (| 1 0) 0)`:                     v == "1",
			`(case (let u (print "ab") ` + v + `) (| "a" 0) 0)`:                   v[0] == '"',
			`(case (let u (print "ab") ` + v + `) (| #0/2 0) 0)`:                  isSmall || isBlock,
			`(case (let u (print "ab") ` + v + `) (| [5/6] 0) 0)`:                 isSmall || isBlock,
			`(let e (ref 1) (case (let u (print "ab") ` + v + `) (| {e _} 0) 0))`: false,
			`(case (let u (print "ab") ` + v + `) (| _ 0) 0)`:                     true,
			`(case (let u (print "ab") ` + v + `) 0)`:                             true,
		} {
			want := "ab; stuck"
			if may {
				want = "ab; exited 0"
			}
			if got := told(run(t, term(t, with), 50)); got != want {
				t.Errorf("%s: %s, not %s", with, got, want)
			}
		}
	}
	hold(t, []row{
		{`(field 1 [0 1])`, "stuck", 3},
		{`(field 0 [0])`, "stuck", 2},
		{`(field 1023 [0 1 2])`, "stuck", 4},
		{`(1 (print "a"))`, "a; stuck", 4},
		{`(1 (raise "a"))`, "err uncaught exception ?; exited 1", 4},
		{`(add (print "a") (print "b"))`, "ab; stuck", 5},
	})
}

// What isn't caught: its name, as far as it has one, and the code.
func TestNotCaught(t *testing.T) {
	for n, name := range []string{"Match", "Bind", "Div", "Subscript", "Size", "Io", "Domain", "Chr"} {
		exn := "!" + string(rune('0'+n))
		hold(t, []row{
			{`(raise [0 ` + exn + ` #0])`, "err uncaught exception " + name + "; exited 1", 4},
			{`(raise ` + exn + `)`, "err uncaught exception ?; exited 1", 2},
		})
	}
	hold(t, []row{
		{`(raise [0 (ref "Own") 1])`, "err uncaught exception Own; exited 1", 5},
		{`(raise [9 (ref "") 1])`, "err uncaught exception ; exited 1", 5},
		{`(raise [9 (ref "One")])`, "err uncaught exception One; exited 1", 4},
		{`(raise [9 (ref "Three") 1 2])`, "err uncaught exception Three; exited 1", 6},
		{`(raise [0 (ref 1) 1])`, "err uncaught exception ?; exited 1", 5},
		{`(raise [0 "Text" 1])`, "err uncaught exception ?; exited 1", 4},
		{`(raise [0])`, "err uncaught exception ?; exited 1", 2},
		{`(raise [0 1 (ref "Second")])`, "err uncaught exception ?; exited 1", 5},
		{`(raise #0)`, "err uncaught exception ?; exited 1", 2},
		{`(raise "Text")`, "err uncaught exception ?; exited 1", 2},
		{`(raise %0)`, "err uncaught exception ?; exited 1", 2},
		{`(raise (fn x x))`, "err uncaught exception ?; exited 1", 2},
		{`(raise (vector #0))`, "err uncaught exception ?; exited 1", 3},
		{`(raise (bnew 0))`, "err uncaught exception ?; exited 1", 3},
		{`(let u (set !2 "Other") (div 1 0))`, "err uncaught exception Other; exited 1", 7},
		{`(let u (set !2 7) (div 1 0))`, "err uncaught exception ?; exited 1", 7},
		{`(let u (print "a") (let v (eprint "b") (raise [0 !0 0])))`, "a; err buncaught exception Match; exited 1", 10},
	})
}

// exit: the code is the integer modulo 256, and nothing goes on.
func TestExit(t *testing.T) {
	hold(t, []row{
		{`(exit 0)`, "exited 0", 2},
		{`(exit 1)`, "exited 1", 2},
		{`(exit 255)`, "exited 255", 2},
		{`(exit 256)`, "exited 0", 2},
		{`(exit ~1)`, "exited 255", 2},
		{`(exit ~256)`, "exited 0", 2},
		{`(exit 123456789012345678901234567890)`, "exited 210", 2},
		{`(exit ~123456789012345678901234567890)`, "exited 46", 2},
		{`(let u (print "a") (let v (exit 3) (print "b")))`, "a; exited 3", 6},
		{`[0 (print "a") (exit 7) (print "b")]`, "a; exited 7", 5},
		{`(exit (exit 3))`, "exited 3", 3},
		{`(exit #3)`, "stuck", 2},
	})
}
