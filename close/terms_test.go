package close_test

import (
	"slices"
	"strconv"
	"strings"
	"testing"

	"smithy/api"
	"smithy/core"
)

// Each kind of term, alone and where its value goes on.
func TestKinds(t *testing.T) {
	hold(t, []row{
		{`1`, ""}, {`#7`, ""}, {`%1.5`, ""}, {`"a"`, ""}, {`!0`, ""}, {`[0]`, ""}, {`(fn x x)`, ""}, {`(rec (f (fn x (f x))) f)`, ""}, {`(fn x (fn y [0 x y]))`, ""},
		{`(print (itext ~123456789012345678901234567890))`, "~123456789012345678901234567890"},
		{`(print (itext (ord #1073741823)))`, "1073741823"},
		{`(print (itext (rbits %1.5)))`, "4609434218613702656"},
		{`(print (itext (rbits $nan)))`, "9221120237041090560"},
		{`(print (get !2))`, "Div"}, {`(print (cat (get !0) (get !7)))`, "MatchChr"},
		{`(let x 7 (print (itext x)))`, "7"}, {`(let x #65 (print (str x)))`, "A"}, {`(let x %2.5 (print (itext (rfloor x))))`, "2"}, {`(let x "t" (print x))`, "t"}, {`(let x !3 (print (get x)))`, "Subscript"},
		{`(let x 7 ((fn y (print (itext x))) 0))`, "7"}, {`(let x "t" (let f (fn y (print x)) [0 (f 0) (f 1)]))`, "tt"},
		{`(print (field 1 [5 "a" "b" "c"]))`, "b"}, {`(print (field 0 [1073741823 "a"]))`, "a"}, {`(let b [2 "a" [3 "b"]] (print (field 0 (field 1 b))))`, "b"},
		{`(eprint "e")`, "!e"}, {`(writefile "g" "text")`, "[g: text]"}, {`(exit 300)`, " =44"}, {`(let u (exit 2) (print "no"))`, " =2"}, {`(print (cat (inputline 0) (readfile "f")))`, "one\ndata"},
		{`(if #0 (print "t") (print "f"))`, "f"}, {`(if #1 (print "t") (print "f"))`, "t"}, {`(if #2 (print "t") (print "f"))`, "t"}, {`(print (if #1073741823 "t" "f"))`, "t"},
		{`(switch #7 0: (print "a") 7: (print "b") (print "c"))`, "b"}, {`(print (switch [7 1] 0: "a" 7: "b" "c"))`, "b"}, {`(print (switch #1 0: "a" 7: "b" "c"))`, "c"}, {`(print (switch [1073741823] 1073741823: "a" 7: "b" "c"))`, "a"}, {`(print (switch #1 "c"))`, "c"}, {`(switch [1] (print "c"))`, "c"},
		{`(raise 1)`, uncaught + "? =1"}, {`(raise [0 !2 #0])`, uncaught + "Div =1"}, {`(raise [5 (ref "own")])`, uncaught + "own =1"}, {`(div 1 0)`, uncaught + "Div =1"},
		{`(handle (raise "a") x (print x))`, "a"}, {`(print (handle (raise "a") x (cat x x)))`, "aa"}, {`(print (handle "b" x (cat x x)))`, "b"},
	})
}

// What stands for a name is what it is bound to where it stands, whatever else has that name, and whatever it looks like.
func TestNames(t *testing.T) {
	hold(t, []row{
		{`(let x "a" (let x "b" (print x)))`, "b"},
		{`(let x "a" (let y (let x "b" x) (print (cat x y))))`, "ab"},
		{`(let x "a" (print (cat (let x "b" x) x)))`, "ba"},
		{`(let x "a" (print (cat (let x (ref "b") (get x)) (cat x (let x "c" x)))))`, "bac"},
		{`(let x "a" (let x (cat x "b") (let x (cat x "c") (print x))))`, "abc"},
		{`(let x "a" ((fn x (print x)) "b"))`, "b"}, {`(let x "a" (print (cat ((fn x (cat x x)) "b") x)))`, "bba"},
		{`(let x "a" (let f (fn y (print x)) (let x "b" (f "c"))))`, "a"},
		{`(let x "a" (let f (fn x (fn y (cat x y))) (let x "b" (print (cat ((f "c") x) x)))))`, "cbb"},
		{`(let x "a" (handle (raise "b") x (print x)))`, "b"},
		{`(let x "a" (print (cat (handle (raise "b") x x) x)))`, "ba"},
		{`(let x "a" (handle (let x "b" (raise x)) y (print (cat x y))))`, "ab"},
		{`(let x "a" (rec (x (fn x (print x))) (x "b")))`, "b"},
		{`(let x "a" (rec (f (fn n x)) (x (fn n "b")) (print (cat ((f 0) 0) (x 0)))))`, "bb"},
		{`(let f "a" (let g (rec (f (fn x (if (le x 0) "end" (f (sub x 1))))) f) (print (cat f (g 3)))))`, "aend"},
		{`(rec (f (fn x (print "a"))) (rec (f (fn x (print "b"))) (f 0)))`, "b"},
		{`(rec (f (fn f f)) (print (f "a")))`, "a"},
		{`(rec (f (fn x (let f (fn y (cat x y)) (f "b")))) (print (f "a")))`, "ab"},
		{`(let x "a" (let y x (let z y (let f (fn u (cat y z)) (let y "b" (print (cat (f 0) (cat x y))))))))`, "aaab"},
		{`(let x "a" (print (cat (if #1 (let x "b" x) x) x)))`, "ba"},
		{`(let x "a" (print (cat (switch #0 0: (let x "b" x) x) (handle (let x "c" (raise x)) x (cat x "d")))))`, "bcd"},
	})
	for _, x := range []string{" ", "\x00", "\xff", "0", "v0", "let", "main", strings.Repeat("n", 5000)} {
		print := func(c api.Core) api.Core { return prims("print", c) }
		in := prims("cat", node(api.CoreApp, "", name(x+x), name("f")), node(api.CoreLet, x, prims("get", name(x)), prims("cat", name(x), name(x))))
		c := node(api.CoreLet, x, prims("ref", word("r")), node(api.CoreLet, x+x, fn("f", prims("cat", name("f"), prims("get", name(x)))), node(api.CoreLet, "f", word("a"), print(in))))
		if got := told(alike(t, c, made(t, c), worlds()[0], everyStep, api.MaxFuel)); got != "arrr" {
			t.Errorf("%.20q: %s", x, got)
		}
	}
}

// Functions use what stands about them, wherever they are brought.
func TestFunctions(t *testing.T) {
	hold(t, []row{
		{`((fn x (print x)) "a")`, "a"}, {`(((fn x (fn y (print (cat x y)))) "a") "b")`, "ab"}, {`((let u (print "f") (fn x (print "b"))) (print "a"))`, "fab"},
		{`(let f (fn x (fn y (fn z (cat x (cat y z))))) (print (((f "a") "b") "c")))`, "abc"},
		{`(let f (fn x (fn y (fn z (cat x (cat y z))))) (let g (f "a") (let h (g "b") (print (cat (h "c") (cat (h "d") ((g "e") "f")))))))`, "abcabdaef"},
		{`(let a "a" (let f (fn x (let b (cat a x) (fn y (let c (cat b y) (fn z (cat a (cat b (cat c z)))))))) (print (((f "x") "y") "z"))))`, "aaxaxyz"},
		{`(let twice (fn f (fn x (f (f x)))) (print (((twice twice) (fn s (cat s s))) "a")))`, "aaaaaaaaaaaaaaaa"},
		{`(let id (fn x x) (print ((id (id id)) "a")))`, "a"},
		{`(let f (fn x (x x)) (print ((f (fn g (fn y (cat y y)))) "a")))`, "aa"},
		{`(let apply (fn f (fn x (f x))) (print ((apply (let k "k" (fn x (cat k x)))) "a")))`, "ka"},
		{`(let f (if #0 (fn x "a") (let k "b" (fn x (cat k x)))) (print (f "c")))`, "bc"},
		{`(print ((if #1 (fn x (cat x "a")) (fn x "b")) "c"))`, "ca"},
		{`(print ((switch [1] 0: (fn x "a") 1: (fn x (cat x "b")) (fn x "d")) "c"))`, "cb"},
		{`(print ((handle (raise (fn x (cat x "r"))) f f) "a"))`, "ar"},
		{`(let b [0 (fn x (cat x "0")) (let k "k" (fn x (cat x k)))] (print (cat ((field 0 b) "a") ((field 1 b) "b"))))`, "a0bk"},
		{`(let c (ref (fn x (cat x "1"))) (let a ((get c) "a") (let u (set c (fn x (cat x a))) (print ((get c) "b")))))`, "ba1"},
		{`(let v (vector [1 [0 (fn x (cat x "0")) [1 [0 (let k "k" (fn x (cat x k))) #0]]]]) (print (cat ((vsub v 0) "a") ((vsub v 1) "b"))))`, "a0bk"},
		{`(let c (ref (fn x x)) (let f (fn n (if (le n 0) "end" ((get c) (sub n 1)))) (let u (set c f) (print (f 5)))))`, "end"},
		{`(let f (fn x (fn y x)) (let g (f "a") (let h (f "b") (print (cat (g 0) (cat (h 0) (g 1)))))))`, "aba"},
		{`(let n (ref 0) (let tick (fn u (let v (get n) (let u (set n (add v 1)) v))) (let a (tick 0) (let b (tick 0) (print (itext (add (mul 10 (tick 0)) (add a b))))))))`, "21"},
		{`(let f (fn x (raise x)) (print (handle (f "a") y (cat y "b"))))`, "ab"},
		{`(let pair (fn a (fn b (fn f ((f a) b)))) (let p ((pair "a") "b") (print (cat (p (fn x (fn y y))) (p (fn x (fn y x)))))))`, "ba"},
		{`(let z (fn x "none") (let f (fn x (let g (fn y (let h (fn w (cat x (cat y w))) (h "w"))) (g "y"))) (print (f "x"))))`, "xyw"},
		{`((1 2) 3)`, " stuck"}, {`((print "f") (print "a"))`, "fa stuck"}, {`(let f (fn x (x 1)) (f 2))`, " stuck"}, {`(let f (fn x x) ((f 1) (print "a")))`, "a stuck"},
	})
}

// A rec's functions know each other, themselves, and what stands about them.
func TestRec(t *testing.T) {
	const even = `(rec (even (fn n (if (le n 0) "even" (odd (sub n 1))))) (odd (fn n (if (le n 0) "odd" (even (sub n 1))))) `
	hold(t, []row{
		{even + `(print (even 0)))`, "even"}, {even + `(print (even 7)))`, "odd"}, {even + `(print (cat (odd 2) (odd 3))))`, "oddeven"},
		{even + `(let f even (let g odd (print (cat (f 3) (g 3))))))`, "oddeven"}, {`(let f ` + even + `odd) (print (f 5)))`, "even"},
		{even + `(let all [0 even odd] (print (cat ((field 0 all) 3) ((field 1 all) 3)))))`, "oddeven"},
		{`(rec (a (fn x (b "a"))) (b (fn x (c (cat x "b")))) (c (fn x (print (cat x "c")))) (a 0))`, "abc"},
		{`(rec (c (fn x (print (cat x "c")))) (b (fn x (c (cat x "b")))) (a (fn x (b "a"))) (a 0))`, "abc"},
		{`(rec (f (fn x 1)) 2)`, ""}, {`(rec (f (fn x 1)) (g (fn x (f x))) (h (fn x (g (f x)))) 2)`, ""},
		{`(rec (fact (fn n (if (le n 0) 1 (mul n (fact (sub n 1)))))) (print (itext (fact 20))))`, "2432902008176640000"},
		{`(rec (f (fn x (fn y (if (le x 0) y ((f (sub x 1)) (cat y ".")))))) (print ((f 2) "a")))`, "a.."},
		{`(rec (f (fn x (if (le x 0) f (f (sub x 1))))) (print (itext (let g (f 3) (let h (g 0) (if (le 1 2) 7 (h 0)))))))`, "7"},
		{`(rec (f (fn x (g f))) (g (fn h "g")) (print (f 0)))`, "g"}, {`(rec (f (fn x [0 f g x])) (g (fn y (cat y "g"))) (print ((field 1 ((field 0 (f "a")) "b")) "c")))`, "cg"},
		{`(let y "a" (rec (f (fn x y)) (let y "b" (print (cat (f 0) y)))))`, "ab"},
		{`(let a "a" (let b "b" (rec (f (fn n (if (le n 0) a (cat b (g (sub n 1)))))) (g (fn n (if (le n 0) b (cat a (f (sub n 1)))))) (print (cat (f 2) (g 3))))))`, "baaabaa"},
		{`(let k (fn x (rec (f (fn n (if (le n 0) x (cat x (g (sub n 1)))))) (g (fn n (f n))) f)) (print (cat ((k "a") 2) ((k "b") 1))))`, "aaabb"},
		{`(rec (f (fn x (rec (g (fn y (if (le y 0) x (f (sub y 1))))) (h (fn z (g z))) (if (le x 0) "end" (h x))))) (print (f 4)))`, "end"},
		{`(rec (f (fn n (let g (fn m (f (sub m 1))) (if (le n 0) "end" (g n))))) (print (f 3)))`, "end"},
		{`(rec (f (fn n (fn m (fn k (if (le n 0) (cat m k) (((f (sub n 1)) k) m)))))) (print (((f 3) "a") "b")))`, "ba"},
		{`(rec (f (fn n (let c (ref f) (if (le n 0) "end" ((get c) (sub n 1)))))) (g (fn h (h 3))) (print (g f)))`, "end"},
		{`(rec (p (fn n (if (le n 0) (print "p") (let u (q (sub n 1)) (print "P"))))) (q (fn n (if (le n 0) (raise "q") (let u (p (sub n 1)) (r n))))) (r (fn n (print (itext n)))) (handle (p 4) x (print x)))`, "p1P3P"},
		{`(rec (f (fn x (f x))) (f 0))`, " .."}, {`(rec (f (fn x (let u (f x) u))) (f 0))`, " .."},
	})
	many := `(rec`
	for i := range 40 {
		many += ` (f` + strconv.Itoa(i) + ` (fn n (if (le n 0) "` + strconv.Itoa(i) + `." (cat (f` + strconv.Itoa((i*7+3)%40) + ` (sub n 1)) (f` + strconv.Itoa((i*11+1)%40) + ` 0)))))`
	}
	c := term(t, many+` (print (cat (f0 5) (f39 4))))`)
	alike(t, c, made(t, c), worlds()[0], everyStep, api.MaxFuel)
}

// What is raised is handled by the innermost handler that is about it when it is raised.
func TestRaised(t *testing.T) {
	hold(t, []row{
		{`(print (cat "a" (handle (cat "b" (raise "c")) x (cat x "d"))))`, "acd"},
		{`(handle (handle (raise "a") x (raise (cat x "b"))) y (print y))`, "ab"},
		{`(handle (let u (handle (print "a") x (print "no")) (raise "b")) y (print y))`, "ab"},
		{`(print (handle (handle "a" x (raise "b")) y "c"))`, "a"},
		{`(let f (fn x (if x (raise "t") "f")) (print (cat (handle (f #1) x x) (handle (f #0) x (cat "no" x)))))`, "tf"},
		{`(let f (fn x (raise x)) (let g (fn x (handle (f x) y (raise (cat y "g")))) (print (handle (g "a") z (cat z "h")))))`, "agh"},
		{`((raise "f") (print "no"))`, uncaught + "? =1"}, {`(handle ((raise "f") (print "no")) x (print x))`, "f"}, {`(handle ((fn x (print "no")) (raise "a")) x (print x))`, "a"}, {`(handle ((let u (print "f") (fn x (print "no"))) (raise "a")) x (print x))`, "fa"},
		{`(handle (if (raise "c") (print "no") (print "no")) x (print x))`, "c"}, {`(handle (switch (raise "c") 0: (print "no") (print "no")) x (print x))`, "c"}, {`(handle (let x (raise "a") (print "no")) y (print y))`, "a"}, {`(handle [0 (print "a") (raise "b") (print "no")] x (print x))`, "ab"}, {`(handle (field 0 (raise "a")) x (print x))`, "a"}, {`(handle (raise (raise "a")) x (print x))`, "a"}, {`(handle (print (raise "a")) x (print x))`, "a"},
		{`(handle (print (if (raise "c") "no" "no")) x (print x))`, "c"}, {`(print (cat (if #1 "a" (raise "b")) "c"))`, "ac"}, {`(handle (print (cat (if #0 "a" (raise "b")) "c")) x (print x))`, "b"}, {`(handle (print (cat (if #0 (raise "a") (raise "b")) "c")) x (print x))`, "b"}, {`(handle (print (cat (switch #1 0: (raise "a") 1: "s" 2: (raise "b") (raise "c")) "c")) x (print x))`, "sc"}, {`(handle (print (cat (switch #1 0: (raise "a") (raise "b")) "c")) x (print x))`, "b"},
		{`(let x (if #1 (raise "a") "b") (print "no"))`, uncaught + "? =1"}, {`(let x (handle (if #1 (raise "a") "b") y (cat y "c")) (print x))`, "ac"}, {`(let x (if #1 (let u (exit 3) "a") "b") (print x))`, " =3"}, {`(let x (if #1 (exit 3) "b") (print x))`, " =3"}, {`(let x (if #0 (exit 3) "b") (print x))`, "b"}, {`(let x (if #0 "a" (let y (raise "b") "c")) (print x))`, uncaught + "? =1"},
		{`(print (handle (if #1 (div 1 0) 2) x (get (field 0 x))))`, "Div"}, {`(print (itext (handle (add (if #1 (div 1 0) 2) 1) x 7)))`, "7"},
		{`(rec (f (fn n (if (le n 0) (raise "end") (handle (f (sub n 1)) x (raise (cat x ".")))))) (handle (f 3) x (print x)))`, "end..."},
		{`(rec (f (fn n (handle (if (le n 0) (raise "end") (raise "more")) x (if (eq x "end") x (f (sub n 1)))))) (print (f 20)))`, "end"},
		{`(rec (f (fn n (if (le n 0) (raise "end") (let u (print ".") (f (sub n 1)))))) (handle (f 3) x (print x)))`, "...end"},
		{`(handle (print "a") x (raise "b"))`, "a"}, {`(print (handle (handle (handle (raise "a") x (raise "b")) x (raise "c")) x (cat x "d")))`, "cd"},
		{`(print (handle (raise (handle (raise "a") x (cat x "b"))) y (cat y "c")))`, "abc"}, {`(print (handle (raise "a") x (handle (raise "b") y (cat x y))))`, "ab"}, {`(print (handle (raise "a") x (handle (raise "b") x (cat x x))))`, "bb"},
		{`(let k "k" (let f (handle (raise "a") x (fn y (cat k (cat x y)))) (print (f "b"))))`, "kab"},
		{`(let k "k" (let f (fn u (cat (handle (raise k) x (cat x k)) k)) (print (f 0))))`, "kkk"}, {`(let k "k" (let f (fn u (handle (let z (cat k "z") (raise z)) x (cat x k))) (print (f 0))))`, "kzk"}, {`(let k "k" (let f (fn b (cat (if b (cat k "t") k) k)) (print (cat (f #0) (f #1)))))`, "kkktk"},
	})
}

// Conditions and switches whose value goes on, and such as stand last, in one another.
func TestChoices(t *testing.T) {
	hold(t, []row{
		{`(if (if #1 #0 #1) (print "t") (print "f"))`, "f"}, {`(print (if (if #0 #0 #1) (if #1 "a" "b") (if #0 "c" "d")))`, "a"},
		{`(print (cat (if #1 (if #0 "a" "b") "c") (switch (if #1 #3 #4) 3: (switch [2] 2: "d" "e") 4: "f" "g")))`, "bd"},
		{`(let x (if (lt 1 2) 10 20) (let y (switch [1 x] 1: (add x 1) 0) (print (itext (mul x y)))))`, "110"},
		{`(let f (fn b (if b (print "t") (if (eq b #0) (print "f") (raise "no")))) [0 (f #0) (f #1)])`, "ft"},
		{`(let f (fn n (let s (switch n 0: "zero" 1: "one" 2: (if (eq n #2) "two" "no") "many") (cat s "."))) (print (cat (f #0) (cat (f #1) (cat (f #2) (f #3))))))`, "zero.one.two.many."},
		{`(let f (fn n (switch n 0: "zero" 1: "one" 2: (if (eq n #2) "two" "no") "many")) (print (cat (f #0) (cat (f #1) (cat (f #2) (f #3))))))`, "zeroonetwomany"},
		{`(let x (if #1 (fn y "a") (fn y "b")) (let z (if #0 x (fn y (x y))) (print (z 0))))`, "a"},
		{`(let u (if #1 (print "a") (print "b")) (let u (if #0 (print "c") [0]) (print "d")))`, "ad"},
		{`(print (if "a" "b" "c"))`, " stuck"}, {`(if 1 2 3)`, " stuck"}, {`(if [0] 2 3)`, " stuck"}, {`(switch 7 7: (print "no") (print "no"))`, " stuck"}, {`(print (switch "" ""))`, " stuck"}, {`(field 0 (print "a"))`, "a stuck"}, {`(field 0 7)`, " stuck"}, {`(field 1 [0 1])`, " stuck"},
	})
}

// Parts are worked out from the left to the right, ahead of what is made of them.
func TestOrder(t *testing.T) {
	said := func(what, is string) string { return `(let u (print "` + what + `") ` + is + `)` }
	hold(t, []row{
		{`[0 ` + said("a", "1") + said("b", "2") + said("c", "3") + `]`, "abc"},
		{`(print (cat ` + said("a", `"x"`) + said("b", `"y"`) + `))`, "abxy"},
		{`(print (substring ` + said("a", `"xyz"`) + said("b", `1`) + said("c", "2") + `))`, "abcyz"},
		{`(` + said("f", `(fn x (print x))`) + said("a", `"x"`) + `)`, "fax"}, {`((fn x ` + said("b", "x") + `)` + said("a", `"x"`) + `)`, "ab"},
		{`((` + said("f", `(fn x `+said("1", `(fn y (print (cat x y)))`)+`)`) + said("a", `"x"`) + `) ` + said("b", `"y"`) + `)`, "fa1bxy"},
		{`(let f ` + said("f", `(fn x (fn y (print (cat x y))))`) + `((f ` + said("a", `"x"`) + `) ` + said("b", `"y"`) + `))`, "fabxy"},
		{`(let x ` + said("a", "1") + said("b", "2") + `)`, "ab"}, {`(if ` + said("c", "#0") + said("t", "1") + said("f", "2") + `)`, "cf"}, {`(switch ` + said("c", "[1]") + `0: ` + said("0", "1") + `1: ` + said("1", "2") + said("e", "3") + `)`, "c1"},
		{`(handle ` + said("a", `(raise `+said("b", "1")+`)`) + `x ` + said("c", "2") + `)`, "abc"}, {`(raise ` + said("a", "1") + `)`, "a" + uncaught + "? =1"},
		{`(field 0 ` + said("a", "[0 1]") + `)`, "a"}, {`(add ` + said("a", "1") + said("b", `"x"`) + `)`, "ab stuck"}, {`(` + said("f", "1") + said("a", "2") + `)`, "fa stuck"}, {`(add "x" ` + said("b", `(raise 1)`) + `)`, "b" + uncaught + "? =1"}, {`(7 ` + said("b", `(raise 1)`) + `)`, "b" + uncaught + "? =1"},
		{`(let c (ref "a") (print (cat (get c) (let u (set c "b") (get c)))))`, "ab"}, {`(let c (ref "a") (let x (get c) (let u (set c "b") (print (cat x (get c))))))`, "ab"}, {`(let c (ref "a") (let f (fn u (get c)) [0 (print (f 0)) (set c "b") (print (f 0))]))`, "ab"},
		{`(print (cat (inputline 0) (cat (inputline 0) (inputline 0))))`, "one\ntwo\n\n"}, {`[0 (writefile "f" "new") (print (readfile "f"))]`, "[f: new]new"},
	})
}

// Loops go on for as many steps as there may be, in one function's place or deeper and deeper.
func TestLoops(t *testing.T) {
	for _, text := range []string{
		`(rec (f (fn n (f (add n 1)))) (f 0))`,
		`(rec (f (fn n (g n))) (g (fn n (h n))) (h (fn n (f n))) (f 0))`,
		`(rec (f (fn n (let u (print (itext n)) (f (add n 1))))) (f 0))`, `(rec (f (fn x (let u (print "a") (g x)))) (g (fn x (f x))) (f 0))`,
		`(rec (f (fn n (if (le n 0) 1 (f (add n 1))))) (f 1))`,
		`(rec (f (fn n (switch [0 n] 0: (f (add n 1)) 0))) (f 1))`,
		`(rec (f (fn n (add 1 (f (add n 1))))) (f 0))`,
		`(rec (f (fn n (let u (print "a") (let r (f n) (print "no"))))) (f 0))`,
		`(rec (f (fn n (handle (f (add n 1)) x (raise x)))) (f 0))`,
		`(rec (f (fn n (handle (raise n) x (let u (print (itext x)) (f (add x 1)))))) (f 0))`,
		`(rec (f (fn n (add (if (le n 0) n (f (add n 1))) 1))) (f 1))`,
		`(let f (fn x (x x)) (f f))`, `((fn x (x x)) (fn x (x x)))`, `(let f (fn x (let u (x x) u)) (f f))`,
		`(let c (ref 0) (let f (fn n ((get c) (add n 1))) (let u (set c f) (f 0))))`,
		`(rec (f (fn g (fn n ((g g) (add n 1))))) ((f f) 0))`,
		`(rec (f (fn a (fn b (let u (print (itext a)) ((f b) (add a b)))))) ((f 0) 1))`,
	} {
		c := term(t, text)
		p := made(t, c)
		if out := alike(t, c, p, worlds()[0], everyStep, 1000, 4321, api.MaxFuel-1, api.MaxFuel); out.Status != api.Running {
			t.Errorf("%s: %s", text, told(out))
		}
	}
	for _, r := range []row{
		{`(rec (f (fn n (if (le n 0) (print "end") (f (sub n 1))))) (f 1400))`, "end"},
		{`(rec (f (fn n (if (le n 0) 0 (add 1 (f (sub n 1)))))) (print (itext (f 1400))))`, "1400"},
		{`(let c (ref 1400) (rec (f (fn u (if (le (get c) 0) (print "end") (let u (set c (sub (get c) 1)) (f u))))) (f 0)))`, "end"},
		{`(rec (f (fn n (if (le n 0) (raise "end") (handle (f (sub n 1)) x (raise x))))) (handle (f 1000) x (print x)))`, "end"},
		{`(rec (f (fn n (fn m (if (le n 0) m ((f (sub n 1)) (add m 1)))))) (print (itext ((f 900) 0))))`, "900"},
	} {
		c := term(t, r.term)
		if got := told(alike(t, c, made(t, c), worlds()[0], 20, 1000, api.MaxFuel)); got != r.want {
			t.Errorf("%s: %s", r.term, got)
		}
	}
}

// How functions are called: one that is known by its number, another one by asking; where a call stands last it goes on in the
// function's place.
func TestCalls(t *testing.T) {
	for _, r := range []struct{ term, want string }{
		{`(rec (f (fn n (f n))) (f 0))`, "tail tail"},
		{`(rec (f (fn n (add 1 (f n)))) (print (itext (f 0))))`, "call call"},
		{`(rec (f (fn n (g n))) (g (fn n (f n))) (add 1 (f 0)))`, "call tail tail"},
		{`(fn f (f 1))`, "go"}, {`(fn f (add 1 (f 1)))`, "apply"}, {`(let f (fn x x) (let g f (g 1)))`, "tail"}, {`(let f (fn x x) (fn y (f y)))`, "tail"},
		{`(let f (fn x (fn y (add x y))) ((f 1) 2))`, "call tail"}, {`(rec (f (fn x (fn y ((f x) y)))) ((f 1) 2))`, "call tail call tail"},
		{`(let f (fn x (let k (add x 1) (fn y (add k y)))) ((f 1) 2))`, "call tail"}, {`((fn x x) 1)`, ""}, {`(((fn x (fn y [0 x y])) 1) 2)`, "tail"},
		{`(let f (if #1 (fn x x) (fn y y)) (f 1))`, "go"}, {`((get (ref (fn x x))) 1)`, "go"}, {`(let f (fn x x) (if #1 (f 1) (f 2)))`, "tail tail"}, {`(let f (fn x x) [0 (if #1 (f 1) (f 2))])`, "tail tail"}, {`(let f (fn x x) (handle (f 1) y (f y)))`, "tail tail"},
	} {
		var calls []string
		for _, f := range made(t, term(t, r.term)).Funs {
			eachNode(&f.Body, func(n *api.Flow) {
				calls = append(calls, map[int]string{api.FlowTail: "tail", api.FlowGo: "go"}[n.Kind], map[int]string{api.OpCall: "call", api.OpApply: "apply"}[n.Op.Kind])
			})
		}
		if got := strings.Join(slices.DeleteFunc(calls, func(s string) bool { return s == "" }), " "); got != r.want {
			t.Errorf("%s: %s, not %s", r.term, got, r.want)
		}
	}
}

// How often ways meet behind a try: only where more than one of them comes back.
func TestTries(t *testing.T) {
	for text, want := range map[string]int{
		`(if #1 (print "a") (print "b"))`: 0, `(print (if #1 "a" "b"))`: 1, `(print (if (if #1 #0 #1) "a" "b"))`: 2, `(if (if #1 #0 #1) (print "a") (print "b"))`: 1,
		`(print (if #1 "a" (raise "b")))`: 0, `(print (if #1 (raise "a") "b"))`: 0, `(print (if #1 (raise "a") (raise "b")))`: 0, `(print (if #1 "a" (exit 3)))`: 0, `(print (if #1 "a" (cat "b" (raise "c"))))`: 0, `(print (if #1 "a" (let x (raise "c") "d")))`: 0, `(print (if #1 "a" (let x "c" (raise x))))`: 0, `(print (if #1 "a" [0 (exit 1)]))`: 0,
		`(print (if #1 "a" (if (raise "b") "c" "d")))`: 0, `(print (if #1 "a" (if #1 (raise "c") (raise "d"))))`: 0, `(print (if #1 "a" (if #1 "c" (raise "d"))))`: 1, `(print (if #1 "a" (rec (f (fn x (raise x))) (raise f))))`: 0, `(print (if #1 "a" (rec (f (fn x (raise x))) f)))`: 1, `(print (if #1 "a" ((fn x x) (raise "b"))))`: 0, `(print (if #1 "a" (fn x (raise x))))`: 1,
		`(print (switch #1 0: "a" 1: "b" (raise "c")))`: 1, `(print (switch #1 0: (raise "a") 1: "b" (raise "c")))`: 0, `(print (switch #1 "c"))`: 0,
		`(handle (print "a") x x)`: 1, `(print (if #1 "a" (handle (raise "b") x (raise x))))`: 1, `(print (if #1 "a" (handle (raise "b") x "c")))`: 2, `(print (if #1 "a" (handle "b" x (raise x))))`: 2,
	} {
		got := 0
		for _, f := range made(t, term(t, text)).Funs {
			eachNode(&f.Body, func(n *api.Flow) {
				if n.Kind == api.FlowTry {
					got++
				}
			})
		}
		if got != want {
			t.Errorf("%s: %d tries, not %d", text, got, want)
		}
	}
}

// What is patched: only functions that are captured ahead of their being made; none is captured by itself.
func TestPatches(t *testing.T) {
	for text, want := range map[string][2]int{
		`(rec (f (fn n (f n))) f)`: {0, 0}, `(rec (f (fn n 1)) (g (fn n (f n))) (h (fn n (g (f n)))) h)`: {0, 3}, `(rec (h (fn n (g (f n)))) (g (fn n (f n))) (f (fn n 1)) h)`: {3, 3}, `(rec (f (fn n (g n))) (g (fn n (f n))) f)`: {1, 2},
		`(rec (f (fn n [0 g g g])) (g (fn n [0 g g g])) f)`: {1, 1}, `(let x (ref 1) (rec (f (fn n [0 x g])) (g (fn n [0 x f])) f))`: {1, 4}, `(rec (f (fn n (fn m (f m)))) f)`: {0, 1}, `(rec (f (fn n (fn m (g m)))) (g (fn n (fn m (g (f m))))) f)`: {1, 5},
	} {
		patches, captured := 0, 0
		for _, f := range made(t, term(t, text)).Funs {
			eachNode(&f.Body, func(n *api.Flow) {
				switch n.Op.Kind {
				case api.OpPatch:
					patches++
				case api.OpClosure:
					captured += len(n.Op.Args)
				}
			})
		}
		if patches != want[0] || captured != want[1] {
			t.Errorf("%s: %d patches, %d captured, not %v", text, patches, captured, want)
		}
	}
}

// eachNode goes through the nodes of a body.
func eachNode(f *api.Flow, do func(*api.Flow)) {
	do(f)
	for i := range f.Kids {
		eachNode(&f.Kids[i], do)
	}
}

// What a call doesn't need is not taken from its closure: a function takes no more steps for what it has captured than its term.
func TestLazy(t *testing.T) {
	c := term(t, `(let a (ref 1) (let b (ref 2) (let d (ref 3) (let e (ref 4) (rec (f (fn n (if (le n 0) (get a) (if (le n 1) (add (get b) (get d)) (if (le 10000 n) (get e) (f (sub n 1))))))) (print (itext (f 300))))))))`)
	p := made(t, c)
	term, flows := runsOf(c, p, worlds()[0])
	if of, is := steps(t, api.MaxFuel, term), steps(t, api.MaxFuel, flows); is > of/2 || told(alike(t, c, p, worlds()[0], 10, api.MaxFuel)) != "5" {
		t.Errorf("%d steps, of a term with %d", is, of)
	}
}

// A long integer of a name stands once, however often the name does.
func TestLongIntegers(t *testing.T) {
	long := api.Core{Kind: api.CoreInt, Int: api.Int{Mag: slices.Repeat([]uint32{7}, 1<<20)}}
	c := node(api.CoreLet, "x", long, tagged(0, slices.Repeat([]api.Core{name("x")}, 50)...))
	if n := core.Size(c); n > 60 {
		t.Fatal(n)
	}
	many := 0
	for _, f := range made(t, c).Funs {
		eachNode(&f.Body, func(n *api.Flow) {
			for _, a := range n.Op.Args {
				many += len(a.Int.Mag)
			}
		})
	}
	if many != 1<<20 {
		t.Errorf("%d limbs", many)
	}
}
