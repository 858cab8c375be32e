package core_test

import "testing"

// P7.3: each shape: what fits it, what doesn't, and of what the run is stuck. A case takes a step, its value, and what is gone
// on with; shapes take none.
func TestShapes(t *testing.T) {
	const yes, no, stuck = "yes; exited 0", "no; exited 0", "stuck"
	for _, r := range []struct{ value, shape, want string }{
		{`1`, `_`, yes},
		{`"a"`, `x`, yes},
		{`(fn x x)`, `_`, yes},
		{`%1.5`, `x`, yes},

		{`7`, `7`, yes},
		{`7`, `8`, no},
		{`7`, `~7`, no},
		{`0`, `0`, yes},
		{`123456789012345678901234567890`, `123456789012345678901234567890`, yes},
		{`123456789012345678901234567890`, `123456789012345678901234567891`, no},
		{`(sub 1 1)`, `0`, yes},
		{`#7`, `7`, stuck},
		{`"7"`, `7`, stuck},
		{`[7]`, `7`, stuck},
		{`%7`, `7`, stuck},

		{`"ab"`, `"ab"`, yes},
		{`"ab"`, `"a"`, no},
		{`"a"`, `"ab"`, no},
		{`""`, `""`, yes},
		{`(cat "a" "b")`, `"ab"`, yes},
		{`#7`, `"ab"`, stuck},
		{`7`, `"ab"`, stuck},
		{`(ref "ab")`, `"ab"`, stuck},

		{`#7`, `#7/8`, yes},
		{`#7`, `#6/8`, no},
		{`#9`, `#7/8`, no},
		{`[7]`, `#7/8`, no},
		{`[7 1 2]`, `#7/8`, no},
		{`#1073741823`, `#1073741823/1073741824`, yes},
		{`7`, `#7/8`, stuck},
		{`"a"`, `#7/8`, stuck},
		{`(fn x x)`, `#7/8`, stuck},
		{`!1`, `#1/8`, stuck},

		{`[7]`, `[7/8]`, yes},
		{`[7]`, `[6/8]`, no},
		{`#7`, `[7/8]`, no},
		{`#7`, `[7/8 _ _]`, no},
		{`[6 1]`, `[7/8]`, no},
		{`[6]`, `[7/8 _]`, no},
		{`[7 1]`, `[7/8]`, stuck},
		{`[7]`, `[7/8 _]`, stuck},
		{`[7 1 2]`, `[7/8 _]`, stuck},
		{`[7 1]`, `[7/8 _]`, yes},
		{`[7 1]`, `[7/8 1]`, yes},
		{`[7 1]`, `[7/8 2]`, no},
		{`[7 1 "a"]`, `[7/8 x y]`, yes},
		{`[7 1 "a"]`, `[7/8 1 "b"]`, no},
		{`[7 1 "a"]`, `[7/8 1 2]`, stuck},
		{`[7 "a" "a"]`, `[7/8 1 2]`, stuck},
		{`7`, `[7/8]`, stuck},
		{`"a"`, `[7/8]`, stuck},
		{`(vector #0)`, `[0/8]`, stuck},
		{`[0 [1 #0 2] [2]]`, `[0/1 [1/2 #0/1 2] [2/3]]`, yes},
		{`[0 [1 #0 2] [2]]`, `[0/1 [1/2 #0/1 3] [2/3]]`, no},

		// nothing behind what doesn't fit is looked at
		{`[7 1 2]`, `[7/8 2 "stuck"]`, no},
		{`[7 [1 2] 3]`, `[7/8 [2/8] "stuck"]`, no},
		{`[7 [1 2] 3]`, `[7/8 [1/8 3] "stuck"]`, no},
		{`[7 [1 2 3] 3]`, `[7/8 [1/8 3 "stuck"] "stuck"]`, no},
		{`[7 #1 3]`, `[7/8 [1/8 _ _ _] "stuck"]`, no},
		{`[7 "stuck" 1]`, `[7/8 1 1]`, stuck},
		{`[7 1 "stuck" 2]`, `[7/8 1 1 1]`, stuck},

		// exceptions
		{`[0 e 1]`, `{e _}`, yes},
		{`[0 e 1]`, `{e 1}`, yes},
		{`[0 e 1]`, `{e 2}`, no},
		{`[0 d 1]`, `{e _}`, no},
		{`[0 d 1]`, `{e "stuck"}`, no},
		{`[0 e 1]`, `{e "stuck"}`, stuck},
		{`[5 e 1]`, `{e 1}`, yes},
		{`[0 !2 #0]`, `{div #0/1}`, yes},
		{`[0 !3 #0]`, `{div #0/1}`, no},
		{`(handle (div 1 0) x x)`, `{div #0/1}`, yes},
		{`[0 e]`, `{e _}`, stuck},
		{`[0 e 1 2]`, `{e _}`, stuck},
		{`[0 d 1 2]`, `{e _}`, stuck},
		{`[0]`, `{e _}`, stuck},
		{`#0`, `{e _}`, stuck},
		{`e`, `{e _}`, stuck},
		{`1`, `{e _}`, stuck},
		{`[0 1 e]`, `{e _}`, stuck},
		{`[0 "e" 1]`, `{e _}`, stuck},
		{`[0 e 1]`, `{one _}`, stuck},
		{`[0 d 1]`, `{one "stuck"}`, stuck},
		{`[7 [0 e 1] 2]`, `[7/8 {e x} 2]`, yes},
		{`[7 [0 d 1] 2]`, `[7/8 {e x} "stuck"]`, no},
	} {
		c := term(t, `(let e (ref "E") (let d (ref "E") (let div !2 (let one 1 (case `+r.value+` (| `+r.shape+` (print "yes")) (print "no"))))))`)
		if got := told(run(t, c, 100)); got != r.want {
			t.Errorf("%s of %s: %s, not %s", r.value, r.shape, got, r.want)
		}
	}
}

// Names of shapes are values: the whole, of each kind of shape, and parts.
func TestShapeNames(t *testing.T) {
	hold(t, []row{
		{`(case "a" (| x (print x)) 0)`, "a; exited 0", 4},
		{`(case 7 (| x@ 7 (print (itext x))) 0)`, "7; exited 0", 5},
		{`(case "ab" (| x@ "ab" (print x)) 0)`, "ab; exited 0", 4},
		{`(case #65 (| x@ #65/66 (print (str x))) 0)`, "A; exited 0", 5},
		{`(case [1 "a" "b"] (| x@ [1/2 y z] (print (cat (field 0 x) (cat y z)))) 0)`, "aab; exited 0", 11},
		{`(let e !2 (case [0 !2 "a"] (| x@ {e y} (print (cat (get (field 0 x)) y))) 0))`, "Diva; exited 0", 12},
		{`(let e !2 (handle (div 1 0) x (case x (| {e _} (print "div")) (raise x))))`, "div; exited 0", 10},
		{`(let e !3 (handle (div 1 0) x (case x (| {e _} (print "sub")) (raise x))))`, "err uncaught exception Div; exited 1", 10},
		{`(case [0 [0 "a" "b"] [0 "c"]] (| w@ [0/1 x@ [0/1 _ y] z@ [0/1 u]] (print (cat y (cat u (cat (field 0 x) (field 0 z)))))) 0)`, "bcac; exited 0", 17},
		// a cell is looked for outside of the shape
		{`(let e !2 (case [0 !2 "a"] (| e@ {e y} (print y)) 0))`, "a; exited 0", 8},
		{`(let e !2 (case [0 "no cell" [0 !2 "a"]] (| [0/1 e {e y}] (print (cat e y))) 0))`, "no cella; exited 0", 12},
		{`(let e !2 (case [0 [0 !2 "a"] [0 !2 "b"]] (| [0/1 {e e} {e y}] (print (cat e y))) 0))`, "ab; exited 0", 14},
		// of several rows the first one that fits; the names of those ahead are gone
		{`(case 2 (| 1 (print "1")) (| 2 (print "2")) (| 2 (print "again")) (| _ (print "_")) (print "else"))`, "2; exited 0", 4},
		{`(case 3 (| 1 (print "1")) (| 2 (print "2")) (| _ (print "_")) (print "else"))`, "_; exited 0", 4},
		{`(case 3 (| 1 (print "1")) (| 2 (print "2")) (print "else"))`, "else; exited 0", 4},
		{`(case 3 (print "else"))`, "else; exited 0", 4},
		{`(case (print "a") (| _ (print "b")) (print "else"))`, "ab; exited 0", 5},
		{`(case 2 (| 1 1) (| 2 (print "2")) (| "stuck" 3) 4)`, "2; exited 0", 4},
		{`(case 3 (| 1 1) (| 2 (print "2")) (| "stuck" 3) 4)`, "stuck", 2},
		{`(case (raise "a") (| _ (print "b")) (print "else"))`, "err uncaught exception ?; exited 1", 3},
		{`(handle (case 1 (| 1 (raise "a")) (print "else")) x (print x))`, "a; exited 0", 7},
		{`(let f (case "a" (| x (fn y (print (cat x y)))) 0) (f "b"))`, "ab; exited 0", 11},
	})
}
