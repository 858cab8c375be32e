package syntax_test

import (
	"math"
	"strings"
	"testing"

	"smithy/api"
)

// The document's examples.

func TestExamples(t *testing.T) {
	reads(t, "val x = 1 + 2 * 3", val(pvar("x"), op("+", num(1), op("*", num(2), num(3)))))
	reads(t, "fun f (x :: l) = f l | f [] = 0", fun(clauses("f",
		clause(app(v("f"), v("l")), pop("::", pvar("x"), pvar("l"))), clause(num(0), plist()))))
	refused(t, "infixr 6 ++ val x = a + b ++ c", api.ErrFix, 26)
	refused(t, "infix 6 # val x = 1", api.ErrRead, 8)
	refused(t, "val x =", api.ErrEnd, 7)
	refused(t, "val x = (", api.ErrEnd, 9)
	refused(t, "val = 1", api.ErrRead, 4)
	refused(t, "let", api.ErrRead, 0)
	reads(t, "val x = f 1 handle E n => n | _ => raise G", val(pvar("x"), handle(app(v("f"), num(1)),
		rule(pcon("E", pvar("n")), v("n")), rule(wild(), raise(v("G"))))))
	refused(t, "fun f 0 = 1 | g x = 2", api.ErrRead, 14)
	refused(t, "fun f x = 1 | f x y = 2", api.ErrRead, 20)
	reads(t, "val x = "+strings.Repeat("(", 200)+"a"+strings.Repeat(")", 200), val(pvar("x"), v("a")))
}

// P4.1: the grammar and the trees.

func TestPrograms(t *testing.T) {
	reads(t, "")
	reads(t, " ;; (* nothing *) ; ")
	one := val(pvar("x"), num(1))
	for _, source := range []string{"val x = 1 val x = 1", "; val x = 1; val x = 1;;", "val x=(1)val x=1", "val x = 1\n;\t(* a (* b *) *)\r;val x = ((1))"} {
		reads(t, source, one, one)
	}
}

func TestValAndFun(t *testing.T) {
	reads(t, "val (x, _) : int * int = f 1", val(ptyped(ptuple(pvar("x"), wild()), product(tcon("int"), tcon("int"))), app(v("f"), num(1))))
	reads(t, "fun f x y : int -> int = x y", fun(clauses("f", clause(typed(app(v("x"), v("y")), arrow(tcon("int"), tcon("int"))), pvar("x"), pvar("y")))))
	reads(t, "fun f 0 = 1 | f n = g n and g n = raise f n", fun(
		clauses("f", clause(num(1), pint(0)), clause(app(v("g"), v("n")), pvar("n"))),
		clauses("g", clause(raise(app(v("f"), v("n"))), pvar("n")))))
	reads(t, "fun f (A x) S.b \"a\" #\"b\" {a = 1} [] _ (op +) op ++ = 1", fun(clauses("f", clause(num(1),
		pcon("A", pvar("x")), pcon("S.b"), ptext("a"), pchar('b'), precord([]string{"a"}, pint(1)), plist(), wild(), pvar("+"), pvar("++")))))
	// A clause's own name stands there with op or without it, whatever it is.
	for _, name := range []string{"f", "+", "o", "div", "=", "!", "::"} {
		for _, source := range []string{"fun N x = 1 | op N y = 2", "fun op N x = 1 | N y = 2"} {
			reads(t, strings.ReplaceAll(source, "N", name), fun(clauses(name, clause(num(1), pvar("x")), clause(num(2), pvar("y")))))
		}
	}
	reads(t, "fun f x = fn y => y and g x = case x of 1 => 2 | 3 => 4", fun(
		clauses("f", clause(fn(rule(pvar("y"), v("y"))), pvar("x"))),
		clauses("g", clause(cases(v("x"), rule(pint(1), num(2)), rule(pint(3), num(4))), pvar("x")))))
	// Behind rules a `|` is theirs.
	refused(t, "fun f x = case x of 1 => 2 | f y = 3", api.ErrRead, 33)
	reads(t, "fun f x = (case x of 1 => 2) | f y = 3", fun(clauses("f",
		clause(cases(v("x"), rule(pint(1), num(2))), pvar("x")), clause(num(3), pvar("y")))))
	reads(t, "fun f x : int = raise x | f y : int = 3", fun(clauses("f",
		clause(typed(raise(v("x")), tcon("int")), pvar("x")), clause(typed(num(3), tcon("int")), pvar("y")))))
}

func TestClausesAlike(t *testing.T) {
	refused(t, "fun f x = 1 | op g x = 2", api.ErrRead, 17)
	refused(t, "fun f x = 1 | \"f\" x = 2", api.ErrRead, 14)
	refused(t, "fun f x y = 1 | f x = 2", api.ErrRead, 20)
	refused(t, "fun f x y = 1 | f x : int = 2", api.ErrRead, 20)
	refused(t, "fun f x = 1 | f x y z : int = 2", api.ErrRead, 22)
	refused(t, "fun f x y = 1 | f x", api.ErrEnd, 19)
	refused(t, "fun f x = 1 | f x y", api.ErrEnd, 19)
	refused(t, "fun f x = 1 | f x y val", api.ErrRead, 20)
	refused(t, "fun f x = 1 | f = 2", api.ErrRead, 16)
	refused(t, "fun f x = 1 | f x = 2 | f x y = 2", api.ErrRead, 30)
	refused(t, "fun f x = 1 and g x y = 2 | g x = 3", api.ErrRead, 32)
	reads(t, "fun f x = 1 and g x y = 2", fun(clauses("f", clause(num(1), pvar("x"))), clauses("g", clause(num(2), pvar("x"), pvar("y")))))
}

func TestDatatypes(t *testing.T) {
	a, b := []string{"'a"}, []string{"'a", "''b"}
	reads(t, "datatype t = A", datatype(data(nil, "t", con("A"))))
	reads(t, "datatype 'a t = A of 'a | op B | = of int | o | op :: of 'a * 'a t", datatype(data(a, "t",
		con("A", tvar("'a")), con("B"), con("=", tcon("int")), con("o"), con("::", product(tvar("'a"), tcon("t", tvar("'a")))))))
	reads(t, "datatype ('a) t = A and ('a, ''b) u = B and div = C", datatype(data(a, "t", con("A")), data(b, "u", con("B")), data(nil, "div", con("C"))))
	reads(t, "type t = int type 'a t = 'a type ('a, ''b) t = 'a", typeDec(nil, "t", tcon("int")), typeDec(a, "t", tvar("'a")), typeDec(b, "t", tvar("'a")))
	reads(t, "exception E exception o of int -> int", exn("E"), exn("o", arrow(tcon("int"), tcon("int"))))
}

func TestStructures(t *testing.T) {
	s := api.Sig{Specs: []api.Spec{
		specVal("x", tcon("int")), specVal("+", tvar("'a")), specVal("=", tvar("'a")), specVal("o", tvar("'a")),
		specType(nil, "t"), specType([]string{"'a", "'b"}, "t", tcon("int")),
		specData(data([]string{"'a"}, "d", con("A"), con("B", tvar("'a")))), specExn("E"), specExn("F", tcon("int")),
	}}
	const specs = "sig val x : int; val + : 'a val = : 'a val o : 'a type t type ('a, 'b) t = int;; datatype 'a d = A | B of 'a exception E exception F of int end"
	reads(t, "structure S = struct end", structure("S"))
	reads(t, "structure S = struct ; val x = 1; structure T = A.B.C end", structure("S", val(pvar("x"), num(1)), alias("T", "A.B.C")))
	reads(t, "structure S : T = U", through(alias("S", "U"), api.Sig{Name: "T"}, false))
	reads(t, "structure S :> T = struct end", through(structure("S"), api.Sig{Name: "T"}, true))
	reads(t, "structure S : "+specs+" = T", through(alias("S", "T"), s, false))
	reads(t, "structure S :> "+specs+" = struct signature T = sig end end", through(structure("S", signature("T")), s, true))
	reads(t, "structure S : sig end = T structure S :> sig ; end = T", through(alias("S", "T"), api.Sig{}, false), through(alias("S", "T"), api.Sig{}, true))
	reads(t, "signature S = sig end signature T = "+specs, signature("S"), signature("T", s.Specs...))
	refused(t, "val x = let structure S = T in 1 end", api.ErrRead, 12)
	refused(t, "val x = let signature S = sig end in 1 end", api.ErrRead, 12)
	refused(t, "structure A = struct val x = let val y = 1; structure S = T in 1 end end", api.ErrRead, 44)
	refused(t, "structure A = struct fun f x = let in let structure S = T in 1 end end end", api.ErrRead, 42)
	refused(t, "structure A.B = T", api.ErrRead, 10)
	refused(t, "structure A : B.C = T", api.ErrRead, 14)
	refused(t, "signature A = B", api.ErrRead, 14)
}

func TestTypes(t *testing.T) {
	a, b, i := tvar("'a"), tvar("''b"), tcon("int")
	readsType(t, "'a", a)
	readsType(t, "A.t", tcon("A.t"))
	readsType(t, "div", tcon("div"))
	readsType(t, "int list A.t", tcon("A.t", tcon("list", i)))
	readsType(t, "(int) list", tcon("list", i))
	readsType(t, "('a, ''b) t u", tcon("u", tcon("t", a, b)))
	readsType(t, "('a -> ''b, 'a * ''b, int) t", tcon("t", arrow(a, b), product(a, b), i))
	readsType(t, "'a -> ''b -> int", arrow(a, arrow(b, i)))
	readsType(t, "('a -> ''b) -> int", arrow(arrow(a, b), i))
	readsType(t, "'a * ''b -> int * int", arrow(product(a, b), product(i, i)))
	readsType(t, "'a * ''b * int", product(a, b, i))
	readsType(t, "('a * ''b) * int", product(product(a, b), i))
	readsType(t, "'a * (''b * int)", product(a, product(b, i)))
	readsType(t, "'a * (''b -> int) * int", product(a, arrow(b, i), i))
	readsType(t, "'a * ''b list", product(a, tcon("list", b)))
	readsType(t, "('a * ''b) list", tcon("list", product(a, b)))
	readsType(t, "('a -> ''b) list", tcon("list", arrow(a, b)))
	readsType(t, "{}", trecord(nil))
	readsType(t, "{a : int}", trecord([]string{"a"}, i))
	readsType(t, "{1 : int}", trecord([]string{"1"}, i))
	readsType(t, "{1 : int, 2 : 'a}", product(i, a))
	readsType(t, "{2 : int, 1 : 'a}", trecord([]string{"2", "1"}, i, a))
	readsType(t, "{a : int -> 'a, 10 : 'a * 'a, a : {}} list", tcon("list", trecord([]string{"a", "10", "a"}, arrow(i, a), product(a, a), trecord(nil))))
	readsType(t, "((((int))))", i)
	refused(t, "type t = (int, int)", api.ErrEnd, 19)
	refused(t, "type t = (int, int) * int", api.ErrRead, 20)
	refused(t, "type t = ()", api.ErrRead, 10)
	refused(t, "type t = int ** int", api.ErrRead, 13)
	refused(t, "type t = int * 1", api.ErrRead, 15)
}

func TestPatterns(t *testing.T) {
	x, y := pvar("x"), pvar("y")
	readsPat(t, "_", wild())
	readsPat(t, "x", x)
	readsPat(t, "op x", x)
	readsPat(t, "op =", pvar("="))
	readsPat(t, "op ::", pvar("::"))
	readsPat(t, "!", pvar("!"))
	readsPat(t, "S.x", pcon("S.x"))
	readsPat(t, "~5", pint(-5))
	readsPat(t, "#\"a\"", pchar('a'))
	readsPat(t, "\"a\\n\"", ptext("a\n"))
	readsPat(t, "f x", pcon("f", x))
	readsPat(t, "S.f x", pcon("S.f", x))
	readsPat(t, "op f x", pcon("f", x))
	readsPat(t, "op = (x, y)", pop("=", x, y))
	readsPat(t, "op :: x", pcon("::", x))
	readsPat(t, "f op ::", pcon("f", pvar("::")))
	readsPat(t, "f S.x", pcon("f", pcon("S.x")))
	readsPat(t, "f (g x)", pcon("f", pcon("g", x)))
	readsPat(t, "()", ptuple())
	readsPat(t, "{}", ptuple())
	readsPat(t, "((x))", x)
	readsPat(t, "(x, y)", ptuple(x, y))
	readsPat(t, "(x, (y, x), _)", ptuple(x, ptuple(y, x), wild()))
	readsPat(t, "{2 = x, a = y : int, 1 = f x}", precord([]string{"2", "a", "1"}, x, ptyped(y, tcon("int")), pcon("f", x)))
	readsPat(t, "{1 = x}", precord([]string{"1"}, x))
	readsPat(t, "{2 = x, 1 = y}", precord([]string{"2", "1"}, x, y))
	readsPat(t, "[]", plist())
	readsPat(t, "[x, [y], z as _]", plist(x, plist(y), pas("z", wild())))
	readsPat(t, "x as y", pas("x", y))
	readsPat(t, "o as y", pas("o", y))
	readsPat(t, "x as y as z :: l : int", pas("x", pas("y", ptyped(pop("::", pvar("z"), pvar("l")), tcon("int")))))
	readsPat(t, "(x as y) : int : int", ptyped(ptyped(pas("x", y), tcon("int")), tcon("int")))
	readsPat(t, "x :: y : int list", ptyped(pop("::", x, y), tcon("list", tcon("int"))))
	readsPat(t, "x :: (y : int)", pop("::", x, ptyped(y, tcon("int"))))
	readsPat(t, "f x :: g y :: []", pop("::", pcon("f", x), pop("::", pcon("g", y), plist())))
	readsPat(t, "(x :: y) :: _", pop("::", pop("::", x, y), wild()))
	readsPat(t, "(x as y) :: _", pop("::", pas("x", y), wild()))
	refused(t, "val f x y = 1", api.ErrRead, 8)
	refused(t, "val 1 x = 1", api.ErrRead, 6)
	refused(t, "val (f) x = 1", api.ErrRead, 8)
	refused(t, "val 1.5 = 1", api.ErrRead, 4)
	refused(t, "val f 1.5 = 1", api.ErrRead, 6)
	refused(t, "val S.x as y = 1", api.ErrRead, 8)
	refused(t, "val op x as y = 1", api.ErrRead, 9)
	refused(t, "val (x) as y = 1", api.ErrRead, 8)
	refused(t, "val x :: y as z = 1", api.ErrRead, 11)
	refused(t, "val op S.x = 1", api.ErrRead, 7)
	refused(t, "val + = 1", api.ErrRead, 4)
	refused(t, "val + x = 1", api.ErrRead, 4)
	refused(t, "val f + = 1", api.ErrRead, 8)
	refused(t, "val (x, = 1", api.ErrRead, 8)
	refused(t, "val (x = y) = 1", api.ErrRead, 7)
	refused(t, "val {x, y} = 1", api.ErrRead, 6)
	refused(t, "val {x = y, ...} = 1", api.ErrByte, 12)
	refused(t, "val (x; y) = 1", api.ErrRead, 6)
}

func TestConstants(t *testing.T) {
	readsExp(t, "~5", num(-5))
	readsExp(t, "007", num(7))
	readsExp(t, "~0", num(0))
	readsExp(t, "1.5", real(1.5))
	readsExp(t, "~1.5e3", real(-1500))
	readsExp(t, "#\"a\"", char('a'))
	readsExp(t, "#\"\\000\"", char(0))
	readsExp(t, "\"\"", text(""))
	readsExp(t, "\"\\065\\n\\t\\\\\\\"~ \\255\\127\\031\"", text("A\n\t\\\"~ \xff\x7f\x1f"))
	readsExp(t, "x", v("x"))
	readsExp(t, "S.x", v("S.x"))
	readsExp(t, "!", v("!"))
	readsExp(t, "op x", v("x"))
	readsExp(t, "op +", v("+"))
	readsExp(t, "op =", v("="))
	readsExp(t, "op !", v("!"))
	readsExp(t, "#a", pick("a"))
	readsExp(t, "# o", pick("o"))
	readsExp(t, "#10", pick("10"))
}

func TestExpressions(t *testing.T) {
	a, b, c := v("a"), v("b"), v("c")
	readsExp(t, "a b c", app(app(a, b), c))
	readsExp(t, "a (b c)", app(a, app(b, c)))
	readsExp(t, "(a b) c", app(app(a, b), c))
	readsExp(t, "a 1 1.5 #\"a\" \"a\" S.a ! op + #1 () [] {} let in b end", app(app(app(app(app(app(app(app(app(app(app(app(a,
		num(1)), real(1.5)), char('a')), text("a")), v("S.a")), v("!")), v("+")), pick("1")), tuple()), of(api.ExpList)), tuple()), let(b)))
	readsExp(t, "~ 5", app(v("~"), num(5)))
	readsExp(t, "~ ~5", app(v("~"), num(-5)))
	readsExp(t, "()", tuple())
	readsExp(t, "(a)", a)
	readsExp(t, "(a, b)", tuple(a, b))
	readsExp(t, "(a, (b, c), a)", tuple(a, tuple(b, c), a))
	readsExp(t, "(a; b)", of(api.ExpSeq, a, b))
	readsExp(t, "(a; (b; c); a)", of(api.ExpSeq, a, of(api.ExpSeq, b, c), a))
	readsExp(t, "[]", of(api.ExpList))
	readsExp(t, "[a, (b, c), [a]]", of(api.ExpList, a, tuple(b, c), of(api.ExpList, a)))
	readsExp(t, "{}", tuple())
	readsExp(t, "{a = b, 1 = c, a = a}", record([]string{"a", "1", "a"}, b, c, a))
	readsExp(t, "{1 = a, 2 = b}", tuple(a, b))
	readsExp(t, "{1 = a}", record([]string{"1"}, a))
	readsExp(t, "{o = a}", record([]string{"o"}, a))
	readsExp(t, "let in a end", let(a))
	readsExp(t, "let ; val x = a; fun f y = b in a; b; c end", let(of(api.ExpSeq, a, b, c), val(pvar("x"), a), fun(clauses("f", clause(b, pvar("y"))))))
	readsExp(t, "let in (a; b) end", let(of(api.ExpSeq, a, b)))
	readsExp(t, "let datatype t = A exception E type t = int infix x nonfix x infixr 3 x in a end",
		let(a, datatype(data(nil, "t", con("A"))), exn("E"), typeDec(nil, "t", tcon("int")), infix(0, "x"), nonfix("x"), infixr(3, "x")))
	readsExp(t, "a : int : int -> int", typed(typed(a, tcon("int")), arrow(tcon("int"), tcon("int"))))
	readsExp(t, "a b : int andalso c", of(api.ExpAnd, typed(app(a, b), tcon("int")), c))
	readsExp(t, "a andalso b : int", of(api.ExpAnd, a, typed(b, tcon("int"))))
	readsExp(t, "a andalso b andalso c", of(api.ExpAnd, a, of(api.ExpAnd, b, c)))
	readsExp(t, "(a andalso b) andalso c", of(api.ExpAnd, of(api.ExpAnd, a, b), c))
	readsExp(t, "a orelse b orelse c", of(api.ExpOr, a, of(api.ExpOr, b, c)))
	readsExp(t, "(a orelse b) orelse c", of(api.ExpOr, of(api.ExpOr, a, b), c))
	readsExp(t, "a andalso b orelse b andalso c", of(api.ExpOr, of(api.ExpAnd, a, b), of(api.ExpAnd, b, c)))
	readsExp(t, "a andalso (b orelse c)", of(api.ExpAnd, a, of(api.ExpOr, b, c)))
	readsExp(t, "(a orelse b) andalso c", of(api.ExpAnd, of(api.ExpOr, a, b), c))
	readsExp(t, "a + b = c : int", typed(op("=", op("+", a, b), c), tcon("int")))
	readsExp(t, "a + (b : int)", op("+", a, typed(b, tcon("int"))))
}

func TestAhead(t *testing.T) {
	a, b, c, x := v("a"), v("b"), v("c"), pvar("x")
	readsExp(t, "raise a", raise(a))
	readsExp(t, "raise raise a b", raise(raise(app(a, b))))
	readsExp(t, "if a then b else c", of(api.ExpIf, a, b, c))
	readsExp(t, "if if a then b else c then if a then b else c else if a then b else c",
		of(api.ExpIf, of(api.ExpIf, a, b, c), of(api.ExpIf, a, b, c), of(api.ExpIf, a, b, c)))
	readsExp(t, "while a do while b do c", of(api.ExpWhile, a, of(api.ExpWhile, b, c)))
	readsExp(t, "fn x => a", fn(rule(x, a)))
	readsExp(t, "fn x => fn _ => a | 1 => b", fn(rule(x, fn(rule(wild(), a), rule(pint(1), b)))))
	readsExp(t, "fn x => (fn _ => a) | 1 => b", fn(rule(x, fn(rule(wild(), a))), rule(pint(1), b)))
	readsExp(t, "case a of x : int => b | _ => c", cases(a, rule(ptyped(x, tcon("int")), b), rule(wild(), c)))
	readsExp(t, "case case a of x => b of x => c", cases(cases(a, rule(x, b)), rule(x, c)))
	readsExp(t, "case a of x => case b of x => c | _ => a", cases(a, rule(x, cases(b, rule(x, c), rule(wild(), a)))))
	readsExp(t, "case a of x => (case b of x => c) | _ => a", cases(a, rule(x, cases(b, rule(x, c))), rule(wild(), a)))
	readsExp(t, "case a of x => raise b | _ => if a then b else c", cases(a, rule(x, raise(b)), rule(wild(), of(api.ExpIf, a, b, c))))
	readsExp(t, "case a of x => raise (fn x => b) | _ => c", cases(a, rule(x, raise(fn(rule(x, b)))), rule(wild(), c)))
	readsExp(t, "case a of x => if a then b else (b handle x => c) | _ => c", cases(a, rule(x, of(api.ExpIf, a, b, handle(b, rule(x, c)))), rule(wild(), c)))
	readsExp(t, "case a of x => while a do (fn x => b) | _ => c", cases(a, rule(x, of(api.ExpWhile, a, fn(rule(x, b)))), rule(wild(), c)))
	readsExp(t, "case a of x => a orelse (fn x => b) | _ => c", cases(a, rule(x, of(api.ExpOr, a, fn(rule(x, b)))), rule(wild(), c)))
	readsExp(t, "a handle x => b", handle(a, rule(x, b)))
	readsExp(t, "a handle x => b handle x => c", handle(a, rule(x, handle(b, rule(x, c)))))
	readsExp(t, "(a handle x => b) handle x => c", handle(handle(a, rule(x, b)), rule(x, c)))
	readsExp(t, "raise a handle x => b", raise(handle(a, rule(x, b))))
	readsExp(t, "(raise a) handle x => b", handle(raise(a), rule(x, b)))
	readsExp(t, "a orelse b handle x => c", handle(of(api.ExpOr, a, b), rule(x, c)))
	readsExp(t, "a orelse raise b handle x => c", of(api.ExpOr, a, raise(handle(b, rule(x, c)))))
	readsExp(t, "(a orelse raise b) handle x => c", handle(of(api.ExpOr, a, raise(b)), rule(x, c)))
	readsExp(t, "a orelse (b handle x => c)", of(api.ExpOr, a, handle(b, rule(x, c))))
	readsExp(t, "a andalso raise b orelse c", of(api.ExpAnd, a, raise(of(api.ExpOr, b, c))))
	readsExp(t, "a andalso (raise b) orelse c", of(api.ExpOr, of(api.ExpAnd, a, raise(b)), c))
	readsExp(t, "a andalso b andalso (if a then b else c) orelse c", of(api.ExpOr, of(api.ExpAnd, a, of(api.ExpAnd, b, of(api.ExpIf, a, b, c))), c))
	readsExp(t, "a orelse if a then b else c orelse b", of(api.ExpOr, a, of(api.ExpIf, a, b, of(api.ExpOr, c, b))))
	readsExp(t, "a orelse while a do b", of(api.ExpOr, a, of(api.ExpWhile, a, b)))
	readsExp(t, "a andalso case a of x => b", of(api.ExpAnd, a, cases(a, rule(x, b))))
	readsExp(t, "a andalso fn x => b", of(api.ExpAnd, a, fn(rule(x, b))))
	readsExp(t, "(fn x => a) b", app(fn(rule(x, a)), b))
	readsExp(t, "(if a then b else c) : int", typed(of(api.ExpIf, a, b, c), tcon("int")))
	readsExp(t, "(raise a) + (b orelse c)", op("+", raise(a), of(api.ExpOr, b, c)))
	readsExp(t, "(raise a; fn x => b; a handle x => c)", of(api.ExpSeq, raise(a), fn(rule(x, b)), handle(a, rule(x, c))))
	readsExp(t, "[raise a, fn x => b, a handle x => c]", of(api.ExpList, raise(a), fn(rule(x, b)), handle(a, rule(x, c))))
	refused(t, "val x = a + raise b", api.ErrRead, 12)
	refused(t, "val x = a fn x => b", api.ErrRead, 10)
	refused(t, "val x = a handle x => b : ", api.ErrEnd, 26)
	refused(t, "val x = a orelse", api.ErrEnd, 16)
	refused(t, "val x = if a then b", api.ErrEnd, 19)
	refused(t, "val x = if a then b val y = 1", api.ErrRead, 20)
	refused(t, "val x = (a, b; c)", api.ErrRead, 13)
	refused(t, "val x = (a; b, c)", api.ErrRead, 13)
	refused(t, "val x = (a;)", api.ErrRead, 11)
	refused(t, "val x = (a,)", api.ErrRead, 11)
	refused(t, "val x = [a; b]", api.ErrRead, 10)
	refused(t, "val x = [,]", api.ErrRead, 9)
	refused(t, "val x = let in end", api.ErrRead, 15)
	refused(t, "val x = let in a; end", api.ErrRead, 18)
	refused(t, "val x = op S.x", api.ErrRead, 11)
	refused(t, "val x = op 1", api.ErrRead, 11)
	refused(t, "val x = _", api.ErrRead, 8)
	refused(t, "val x = 'a", api.ErrRead, 8)
	refused(t, "val x = case a of", api.ErrEnd, 17)
	refused(t, "val x = fn x", api.ErrEnd, 12)
	refused(t, "val x = fn x = 1", api.ErrRead, 13)
}

// Operators.

func TestOperatorsAtFirst(t *testing.T) {
	a, b, c := v("a"), v("b"), v("c")
	levels := [][]string{{"*", "/", "div", "mod"}, {"+", "-", "^"}, {"::", "@"}, {"=", "<>", "<", "<=", ">", ">="}, {":=", "o"}}
	for i, level := range levels {
		for j, other := range levels {
			for _, x := range level {
				for _, y := range other {
					left := i < j || i == j && i != 2
					want := op(x, a, op(y, b, c))
					if left {
						want = op(y, op(x, a, b), c)
					}
					readsExp(t, "a "+x+" b "+y+" c", want)
					readsExp(t, "(a "+x+" b) "+y+" c", op(y, op(x, a, b), c))
					readsExp(t, "a "+x+" (b "+y+" c)", op(x, a, op(y, b, c)))
				}
			}
		}
	}
	readsExp(t, "a b + b c * a", op("+", app(a, b), op("*", app(b, c), a)))
	readsExp(t, "(a + b) c", app(op("+", a, b), c))
	readsExp(t, "a (b + c)", app(a, op("+", b, c)))
	readsExp(t, "op + (a, b)", op("+", a, b))
	readsExp(t, "op + {1 = a, 2 = b}", op("+", a, b))
	readsExp(t, "op + {2 = a, 1 = b}", app(v("+"), record([]string{"2", "1"}, a, b)))
	readsExp(t, "op + (a, b, c)", app(v("+"), tuple(a, b, c)))
	readsExp(t, "op + [a, b]", app(v("+"), of(api.ExpList, a, b)))
	readsExp(t, "op + a + op +", op("+", app(v("+"), a), v("+")))
	readsExp(t, "a = b = c", op("=", op("=", a, b), c))
	readsExp(t, "a = op = (b, c)", op("=", a, op("=", b, c)))
	for _, x := range strings.Fields("* / div mod + - ^ :: @ <> < <= > >= := o") {
		refused(t, "val x = "+x, api.ErrRead, 8)
		refused(t, "val x = a "+x, api.ErrEnd, 10+len(x))
		refused(t, "val x = a "+x+" "+x+" b", api.ErrRead, 11+len(x))
		refused(t, "val x = ("+" "+x+" a)", api.ErrRead, 10)
		refused(t, "fun f "+x+" = 1", api.ErrRead, 6)
		readsPat(t, "p "+x+" q", pop(x, pvar("p"), pvar("q")))
	}
	refused(t, "val x = = 1", api.ErrRead, 8)
	refused(t, "val x = f = = 1", api.ErrRead, 12)
	refused(t, "fun f x = = 1", api.ErrRead, 10)
}

func TestOperatorsDeclared(t *testing.T) {
	a, b, c := v("a"), v("b"), v("c")
	reads(t, "infix ++ infixr 9 ** x' = nonfix + -", infix(0, "++"), infixr(9, "**", "x'", "="), nonfix("+", "-"))
	reads(t, "infix 5 f val x = a f b f c", infix(5, "f"), val(pvar("x"), op("f", op("f", a, b), c)))
	reads(t, "infixr 5 f val x = a f b f c", infixr(5, "f"), val(pvar("x"), op("f", a, op("f", b, c))))
	reads(t, "infixr 5 f infix 5 f val x = a f b f c", infixr(5, "f"), infix(5, "f"), val(pvar("x"), op("f", op("f", a, b), c)))
	reads(t, "infix 5 f nonfix f val x = a f b", infix(5, "f"), nonfix("f"), val(pvar("x"), app(app(a, v("f")), b)))
	reads(t, "infix f f infixr 1 f nonfix f val x = f", infix(0, "f", "f"), infixr(1, "f"), nonfix("f"), val(pvar("x"), v("f")))
	reads(t, "nonfix + val x = + (a, b) val + = 1 val (+) = a + b", nonfix("+"), val(pvar("x"), op("+", a, b)), val(pvar("+"), num(1)), val(pvar("+"), app(app(a, v("+")), b)))
	reads(t, "nonfix * val x = ( * ) a val ( * x) = op *", nonfix("*"), val(pvar("x"), app(v("*"), a)), val(pcon("*", pvar("x")), v("*")))
	reads(t, "infix 0 a0 infix 9 a9 val x = a a0 b * c a9 d", infix(0, "a0"), infix(9, "a9"), val(pvar("x"), op("a0", a, op("*", b, op("a9", c, v("d"))))))
	for level := range 10 {
		d := string(rune('0' + level))
		reads(t, "infix "+d+" ++ infixr "+d+" ** val x = a ++ b ++ c val x = a ** b ** c", infix(level, "++"), infixr(level, "**"),
			val(pvar("x"), op("++", op("++", a, b), c)), val(pvar("x"), op("**", a, op("**", b, c))))
		refused(t, "infix "+d+" ++ infixr "+d+" ** val x = a ++ b ** c", api.ErrFix, 38)
	}
	// `=` is an operator in expressions alone, and a name behind op alone.
	refused(t, "nonfix = val x = a = b", api.ErrRead, 19)
	refused(t, "nonfix = val x = =", api.ErrRead, 17)
	reads(t, "nonfix = val x = op = (a, b)", nonfix("="), val(pvar("x"), op("=", a, b)))
	reads(t, "infix 9 = val x = a + b = c", infix(9, "="), val(pvar("x"), op("+", a, op("=", b, c))))
	reads(t, "infixr 4 = val x = a = b = c", infixr(4, "="), val(pvar("x"), op("=", a, op("=", b, c))))
	reads(t, "infix 9 = val op = x = a", infix(9, "="), val(pcon("=", pvar("x")), a))
	reads(t, "infix 9 = val op = (x, y) = a", infix(9, "="), val(pop("=", pvar("x"), pvar("y")), a))
	refused(t, "infix 9 = val (x = y) = a", api.ErrRead, 17)
	// In types they are nothing else than they were.
	reads(t, "nonfix * infix int type t = int * int", nonfix("*"), infix(0, "int"), typeDec(nil, "t", product(tcon("int"), tcon("int"))))
	for _, s := range []string{"infix", "infixr", "nonfix"} {
		refused(t, s, api.ErrEnd, len(s))
		refused(t, s+" S.x", api.ErrRead, len(s)+1)
		refused(t, s+" ( x", api.ErrRead, len(s)+1)
		refused(t, s+" op x", api.ErrRead, len(s)+1)
		refused(t, s+" x 5", api.ErrRead, len(s)+3)
		refused(t, s+" 'a", api.ErrRead, len(s)+1)
	}
	for _, s := range []string{"10", "~1", "00", "~0", "1.0", "07"} {
		refused(t, "infix "+s+" x", api.ErrRead, 6)
		refused(t, "infixr "+s+" x", api.ErrRead, 7)
	}
	refused(t, "infix 5", api.ErrEnd, 7)
	refused(t, "nonfix 5 x", api.ErrRead, 7)
}

func TestScopesOfOperators(t *testing.T) {
	a, b, x := v("a"), v("b"), pvar("x")
	plus := func(name string) api.Exp { return app(app(a, v(name)), b) }
	reads(t, "structure S = struct infix ++ val x = a ++ b end val x = a ++ b",
		structure("S", infix(0, "++"), val(x, op("++", a, b))), val(x, plus("++")))
	reads(t, "structure S = struct nonfix + val x = a + b end val x = a + b",
		structure("S", nonfix("+"), val(x, plus("+"))), val(x, op("+", a, b)))
	reads(t, "val x = let infix ++ val x = a ++ b in a ++ b; b end val x = a ++ b",
		val(x, let(of(api.ExpSeq, op("++", a, b), b), infix(0, "++"), val(x, op("++", a, b)))), val(x, plus("++")))
	reads(t, "infix 3 ++ val x = (let infixr 7 ++ nonfix ++ in a ++ b end) ++ a ++ b", infix(3, "++"),
		val(x, op("++", op("++", let(plus("++"), infixr(7, "++"), nonfix("++")), a), b)))
	reads(t, "structure S = struct infix ++ structure T = struct nonfix ++ val x = a ++ b end val x = a ++ b end val x = a ++ b",
		structure("S", infix(0, "++"), structure("T", nonfix("++"), val(x, plus("++"))), val(x, op("++", a, b))), val(x, plus("++")))
	reads(t, "val x = a + let infixr 6 + in a end + b", val(x, op("+", op("+", a, let(a, infixr(6, "+"))), b)))
	refused(t, "infixr 6 ++ structure S = struct infix 6 ++ val x = a + b ++ a end val x = a + b ++ a", api.ErrFix, 81)
	// A declaration holds from the next one on: its own names are read as names.
	reads(t, "infix f f f val x = a f b", infix(0, "f", "f", "f"), val(x, op("f", a, b)))
	// What is declared by val or fun is no matter of operators.
	reads(t, "fun ++ (a, b) = a val x = a ++ b", fun(clauses("++", clause(a, ptuple(pvar("a"), pvar("b"))))), val(x, plus("++")))
}

func TestFix(t *testing.T) {
	const ahead = "infixr 6 ++ infixr 7 ** val x = "
	n := len(ahead)
	refused(t, ahead+"a ++ b + c", api.ErrFix, n+7)
	refused(t, ahead+"a + b * c ++ d", api.ErrFix, n+10)
	refused(t, ahead+"a + b ++", api.ErrFix, n+6)
	refused(t, ahead+"a + b ++ )", api.ErrFix, n+6)
	refused(t, ahead+"a + b ++ c val", api.ErrFix, n+6)
	refused(t, ahead+"a * b + c ** d * e", api.ErrFix, n+15)
	refused(t, ahead+"a = b + c ++ d", api.ErrFix, n+10)
	refused(t, ahead+"a ++ b * c ** d", api.ErrFix, n+11)
	refused(t, ahead+"(a + b ++ c", api.ErrFix, n+7)
	refused(t, ahead+"[a + (b ++ c) ++ d]", api.ErrFix, n+14)
	refused(t, "infixr 6 ++ val a + b ++ c = 1", api.ErrFix, 22)
	refused(t, "infixr 6 ++ fun f (a ++ b :: c + d ++ e) = 1", api.ErrFix, 35)
	refused(t, "infixr 4 ++ val x = a = b ++ c", api.ErrFix, 26)
	a, b, c, d := v("a"), v("b"), v("c"), v("d")
	with := func(e api.Exp) []api.Dec { return []api.Dec{infixr(6, "++"), infixr(7, "**"), val(pvar("x"), e)} }
	reads(t, ahead+"a + b = c ++ d", with(op("=", op("+", a, b), op("++", c, d)))...)
	reads(t, ahead+"a * b + c ** d", with(op("+", op("*", a, b), op("**", c, d)))...)
	reads(t, ahead+"a + (b ++ c)", with(op("+", a, op("++", b, c)))...)
	reads(t, ahead+"(a + b) ++ c", with(op("++", op("+", a, b), c))...)
	reads(t, ahead+"a * b * c + d ** a ** b :: c ++ d", with(op("::", op("+", op("*", op("*", a, b), c), op("**", d, op("**", a, b))), op("++", c, d)))...)
	reads(t, ahead+"a ++ b andalso c + d", with(of(api.ExpAnd, op("++", a, b), op("+", c, d)))...)
}

// Labels.

func TestLabels(t *testing.T) {
	long := strings.Repeat("9", api.MaxName)
	a := v("a")
	readsExp(t, "#"+long, pick(long))
	readsExp(t, "{"+long+" = a}", record([]string{long}, a))
	readsPat(t, "{"+long+" = a}", precord([]string{long}, pvar("a")))
	readsType(t, "{"+long+" : int}", trecord([]string{long}, tcon("int")))
	refused(t, "val x = #9"+long, api.ErrRead, 9)
	refused(t, "val x = {9"+long+" = a}", api.ErrRead, 9)
	refused(t, "val {9"+long+" = a} = 1", api.ErrRead, 5)
	refused(t, "type t = {9"+long+" : int}", api.ErrRead, 10)
	name := strings.Repeat("x", api.MaxName)
	readsExp(t, "#"+name, pick(name))
	for _, s := range []string{"0", "01", "~1", "1.0", "\"a\"", "S.a", "+", "'a", "_", "val", "="} {
		refused(t, "val x = # "+s, api.ErrRead, 10)
		refused(t, "val x = {"+s+" = a}", api.ErrRead, 9)
		refused(t, "val { "+s+" = a} = 1", api.ErrRead, 6)
		refused(t, "type t = { "+s+" : int}", api.ErrRead, 11)
	}
	refused(t, "val x = #", api.ErrEnd, 9)
}

// Lex's mishaps are told first, wherever they are.

func TestLexMishaps(t *testing.T) {
	refused(t, "val x = \"", api.ErrEnd, 9)
	refused(t, "val val (* a", api.ErrEnd, 12)
	refused(t, "val val \x80", api.ErrByte, 8)
	refused(t, ") A.end", api.ErrWord, 4)
	refused(t, strings.Repeat(" ", api.MaxSource+1), api.ErrLong, 0)
	refused(t, ")"+strings.Repeat(" ", api.MaxSource), api.ErrLong, 0)
	refused(t, ")"+strings.Repeat(" ", api.MaxSource-1), api.ErrRead, 0)
	refused(t, "val x ="+strings.Repeat(" ", api.MaxSource-7), api.ErrEnd, api.MaxSource)
	refused(t, "val x = (* a *) ", api.ErrEnd, 16)
}

// The first mishap, as one reads on from the left.

func TestFirstMishap(t *testing.T) {
	refused(t, "val = val = (", api.ErrRead, 4)
	refused(t, "infixr 6 ++ val x = a + b ++ c val = 1", api.ErrFix, 26)
	refused(t, "infixr 6 ++ val = 1 val x = a + b ++ c", api.ErrRead, 16)
	refused(t, "val x = "+strings.Repeat("raise ", 300)+")", api.ErrRead, 8+1800)
	refused(t, "val x = "+strings.Repeat("raise ", 300), api.ErrEnd, 8+1800)
	refused(t, "val x = "+strings.Repeat("raise ", 300)+"a val", api.ErrEnd, 8+1800+5)
	refused(t, "val x = 1 1.5 _", api.ErrRead, 14)
	refused(t, "x", api.ErrRead, 0)
	refused(t, "val x = 1 end", api.ErrRead, 10)
	refused(t, "val x = 1 in", api.ErrRead, 10)
	refused(t, "; )", api.ErrRead, 2)
	refused(t, "structure S = struct val x = 1", api.ErrEnd, 30)
}

// Reals: all that words say of them is kept.

func TestReals(t *testing.T) {
	for _, x := range []float64{0, math.Copysign(0, -1), 1, -1, 10, 100, 1.5, 0.1, 0.001, 123456789, 1e20, 1e21, 1e22, 1e100, -1e100, 5e-324, 1e-7, 1.7976931348623157e308, math.Inf(1), math.Inf(-1), 2.2250738585072014e-308, 2.225073858507201e-308, math.Pi, 1.0 / 3, 1 << 53, 1<<53 - 1, 123456.789e-10} {
		source := realWord(x)
		readsExp(t, source, real(x))
		readsExp(t, "[f "+source+" g, ~ "+source+"]", of(api.ExpList, app(app(v("f"), real(x)), v("g")), app(v("~"), real(x))))
	}
}
