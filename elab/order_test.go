package elab_test

import (
	"strconv"
	"strings"
	"testing"
)

// P8.1: the order in which the parts of an expression are done, by what they print.
func TestOrder(t *testing.T) {
	const ahead = `fun p s x = (print s; x) fun u s = print s fun i s = (print s; 1) datatype t = K of int * int exception E of int * int `
	rows := []row{
		{`(u "a", u "b", u "c")`, "abc"},
		{`{b = u "b", a = u "a", 2 = u "2", 1 = u "1"}`, "ba21"},
		{`{c = u "c", a = u "a", b = u "b"}`, "cab"},
		{`{b = u "b", a = 1, c = u "c"}`, "bc"},
		{`{b = u "b", a = fn x => x, 1 = "q", c = u "c"}`, "bc"},
		{`{b = u "b", a = (1, 2), c = u "c"}`, "bc"},
		{`{b = {d = u "d", c = u "c"}, a = {d = u "e", c = u "f"}}`, "dcef"},
		{`[u "a", u "b", u "c"]`, "abc"},
		{`(p "f" (fn () => u "c")) (p "a" ())`, "fac"},
		{`(p "f" (fn x => (u "1"; fn y => u "2"))) (u "a") (u "b")`, "fa1b2"},
		{`p "a" 1 + p "b" 2 * p "c" 3`, "abc"},
		{`(p "a" 1 + p "b" 2) * p "c" 3`, "abc"},
		{`p "a" 1 > p "b" 2`, "ab"},
		{`p "a" 1 >= p "b" 2`, "ab"},
		{`p "a" 1.0 > p "b" 2.0`, "ab"},
		{`p "a" "1" >= p "b" "2"`, "ab"},
		{`p "a" #"1" > p "b" #"2"`, "ab"},
		{`p "a" 1 < p "b" 2`, "ab"},
		{`1 > p "b" 2 orelse p "c" 2 > 3`, "bc"},
		{`p "a" 1 <> p "b" 2`, "ab"},
		{`p "a" 1 = p "b" 2`, "ab"},
		{`(p "a" 1 > p "b" 2) = (p "c" 1 > p "d" 2)`, "abcd"},
		{`op > {2 = p "a" 1, 1 = p "b" 2}`, "ab"},
		{`op - {2 = p "a" 1, 1 = p "b" 2}`, "ab"},
		{`(p "f" (op -)) (p "a" 1, p "b" 2)`, "fab"},
		{`op - (p "a" (1, 2))`, "a"},
		{`op > (u "a"; (p "b" 1, p "c" 2))`, "abc"},
		{`p "a" 1 :: p "b" [2]`, "ab"},
		{`K (p "a" 1, p "b" 2)`, "ab"},
		{`K {2 = p "a" 1, 1 = p "b" 2}`, "ab"},
		{`E {2 = p "a" 1, 1 = p "b" 2}`, "ab"},
		{`(p "f" K) (p "a" 1, p "b" 2)`, "fab"},
		{`p "a" (ref 1) := p "b" 2`, "ab"},
		{`p "a" "x" ^ (p "b" "y" ^ p "c" "z")`, "abc"},
		{`if p "a" true then u "b" else u "c"`, "ab"},
		{`if p "a" false then u "b" else u "c"`, "ac"},
		{`p "a" true andalso p "b" true andalso p "c" false andalso p "d" true`, "abc"},
		{`p "a" false orelse p "b" false orelse p "c" true orelse p "d" true`, "abc"},
		{`p "a" false andalso p "b" true orelse p "c" true`, "ac"},
		{`case p "a" 1 of 0 => u "b" | 1 => u "c" | _ => u "d"`, "ac"},
		{`case p "a" 1 of x => u "b"`, "ab"},
		{`(u "a"; u "b"; u "c")`, "abc"},
		{`let val _ = u "a" val _ = u "b" in u "c"; u "d" end`, "abcd"},
		{`let val x = p "a" 1 fun f y = p "f" (x + y) val z = f (p "b" 2) in u "c" end`, "abfc"},
		{`(u "a"; raise p "b" Div; u "c") handle Div => u "d"`, "abd"},
		{`(u "a") handle Div => u "b"`, "a"},
		{`#2 (p "a" 1, p "b" 2)`, "ab"},
		{`#a {b = p "a" 1, a = p "b" 2}`, "ab"},
		{`(p "f" #2) (p "a" 1, p "b" 2)`, "fab"},
		{`let val r = ref 2 in while (u "c"; !r > 0) do (u "b"; r := !r - 1) end`, "cbcbc"},
		{`print (p "a" "b")`, "ab"},
		{`p (p "1" "2") (p "3" 4)`, "132"},
		{`String.substring (p "a" "x", p "b" 0, p "c" 1)`, "abc"},
		{`String.substring {3 = p "a" 0, 1 = p "b" "x", 2 = p "c" 1}`, "abc"},
		{`Bytes.put {2 = p "a" 0, 3 = p "b" 1, 1 = p "c" (Bytes.new 1)}`, "abc"},
		{`let fun f x y = (u "f"; fn z => u "g") in f (i "a") (i "b") (i "c") end`, "abfcg"},
		{`let fun f 1 y z = u "1" | f x 1 z = u "2" | f x y z = u "3" in f (i "a" + 1) (i "b") (i "c") end`, "abc2"},
		{`let fun f x = (u "f"; fn y => u "y") val g = f (u "x") in g (u "a"); g (u "b") end`, "xfayby"},
		{`let fun f x y = u "f" val g = f (u "x") in g (u "a"); g (u "b") end`, "xafbf"},
		{`let val (x, y) = (u "a", u "b") val [z] = [u "c"] in u "d" end`, "abcd"},
		{`fn x => u "a"`, ""},
		{`let fun f x = u "a" in f end`, ""},
	}
	for i := range rows {
		rows[i].program = ahead + "val _ = " + rows[i].program
	}
	hold(t, rows)
}

// P8.1: which of two parts raises first, and what is not done any more then.
func TestFirstToRaise(t *testing.T) {
	const ahead = "exception E of int fun r n = raise E n fun ri n : int = r n datatype t = K of int * int val it = ("
	const behind = `) handle E n => print (Int.toString n)`
	rows := []row{
		{`(r 1, r 2); ()`, "1"},
		{`{b = r 1, a = r 2}; ()`, "1"},
		{`{b = print "b", a = r 2, c = print "c"}; ()`, "b2"},
		{`{a = 1, c = r 1, b = 1 div 0}; ()`, "1"},
		{`[r 1, r 2]; ()`, "1"},
		{`(r 1) (r 2); ()`, "1"},
		{`(fn x => x) (r 2); ()`, "2"},
		{`(fn 1 => 2) (r 2); ()`, "2"},
		{`ri 1 + ri 2; ()`, "1"},
		{`ri 1 > ri 2; ()`, "1"},
		{`ri 1 >= 1 div 0; ()`, "1"},
		{`1 div ri 2; ()`, "2"},
		{`ri 1 div 0; ()`, "1"},
		{`K {2 = ri 1, 1 = ri 2}; ()`, "1"},
		{`if r 1 then r 2 else r 3`, "1"},
		{`if false then r 2 else r 3`, "3"},
		{`r 1 andalso r 2; ()`, "1"},
		{`false andalso r 2; ()`, ""},
		{`true orelse r 2; ()`, ""},
		{`case r 1 of 1 => r 2 | _ => r 3`, "1"},
		{`while r 1 do r 2`, "1"},
		{`while true do r 2`, "2"},
		{`while false do r 2`, ""},
		{`r 1; r 2`, "1"},
		{`raise r 1`, "1"},
		{`let val _ = r 1 in r 2 end`, "1"},
		{`let val x :: _ = (r 1; []) in r 2 end`, "1"},
		{`r 1 handle E n => r (n + 1)`, "2"},
		{`r 1 handle E 0 => r 2`, "1"},
		{`r 1 handle Div => r 2`, "1"},
		{`r 1 handle E 0 => r 2 | E 1 => r 3 | E _ => r 4`, "3"},
		{`(r 1 handle E 1 => r 2) handle E 1 => r 3 | E 2 => r 4`, "4"},
		{`#1 (r 1, r 2); ()`, "1"},
		{`print (r 1 ^ r 2)`, "1"},
		{`(ref (r 1)) := r 2`, "1"},
		{`let fun f x y = r 3 in f 1 (r 2) end`, "2"},
		{`let fun f 1 2 = r 3 | f _ _ = r 4 in f 1 2 end`, "3"},
	}
	for i := range rows {
		rows[i].program = ahead + rows[i].program + behind
	}
	hold(t, rows)
}

// frames are expressions of integers about an integer ? , one of each kind at least, that show by what they print what is done.
func frames() []string {
	return []string{
		`(? : int)`, `(p "a" ?)`, `(#1 (?, p "b" 2))`, `(#b {b = ?, a = p "c" 1})`, `(#z {z = p "d" 2, b = ?})`,
		`(case ? of 0 => p "e" 1 | n => n + 1)`, `(case (?, [1]) of (2, _) => 3 | (n, [m]) => n - m | _ => 9)`, `(case ? of x => x)`,
		`(if ? < 3 then p "f" 1 else 2)`, `(let val x = ? val y = x in x + y end)`, `(let val (x, 1) = (?, 1) in x end)`,
		`(let fun f x y = x - y in f ? (p "g" 1) end)`, `(let fun f 0 = 0 | f n = n + f (n - 1) in f (? mod 3) end)`,
		`(let exception Q of int in (raise Q ?) handle Q n => n + 1 end)`, `(let datatype t = K of int | L in case K ? of K n => n | L => 0 end)`,
		`((fn x => x * 2) ?)`, `((fn 1 => 2 | n => n) ?)`, `((fn () => ?) ())`, `(print "h"; ?)`, `(?; p "i" 4)`, `(while false do ?; 5)`,
		`(let val r = ref 0 in while !r < ? mod 3 do r := !r + 1; !r end)`, `(? handle Div => 7)`, `((1 div (? mod 2)) handle Div => ?)`,
		`(if ? = 1 andalso p "j" true orelse p "k" false then 1 else 2)`, `(~ ?)`, `(? + p "l" 1)`, `(op - {2 = ?, 1 = p "m" 3})`,
		`(if ? > p "n" 2 then 1 else 0)`, `(if (?, 1) <> (1, 1) then 1 else 0)`, `(case [?, p "o" 2] of [a, b] => a - b | _ => 0)`, `(size (Int.toString ?))`,
		`(!(ref ?))`, `(let val op ++ = fn (a, b) => a * b in op ++ (?, p "q" 3) end)`, `((case ? of 5 => 6) handle Match => p "r" 1)`, `((let val 5 = ? in 6 end) handle Bind => p "s" 1)`,
	}
}

// P8.1: each kind of expression, pattern and declaration within each other one.
func TestWithin(t *testing.T) {
	const ahead = `fun p s x = (print s; x) `
	for i, outer := range frames() {
		t.Run(strconv.Itoa(i), func(t *testing.T) {
			t.Parallel()
			for j, inner := range frames() {
				whole := strings.ReplaceAll(outer, "?", strings.ReplaceAll(inner, "?", strconv.Itoa(j%4)))
				program := ahead + "val _ = print (Int.toString " + whole + ")"
				if (i+j)%5 == 0 {
					program = ahead + "structure S : sig val a : int end = struct val b = " + whole + " fun c () = b val a = c () end val _ = print (Int.toString S.a)"
				}
				l := typed(t, program)
				c := made(t, l)
				alike(t, l, c, theWorld(), 40, 60, 100, 5000)
			}
		})
	}
}
