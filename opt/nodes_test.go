package opt_test

import (
	"strings"
	"testing"

	"smithy/api"
)

// The chapter's example: what may be left of it, or less.
func TestExample(t *testing.T) {
	p := program(t, `let 0 = mul 2 3; let 1 = add v0 36; let 2 = itext v1; let 3 = print v2; ret v3`)
	holdOne(t, p, "42")
	if n := size(made(t, p)); n > 1+3 {
		t.Errorf("%d nodes and functions are left", n)
	}
}

// P12.1: the zero program, and others without a beginning, are ErrFlow.
func TestNothing(t *testing.T) {
	refused(t, "nothing", api.Program{})
	refused(t, "no functions", api.Program{Funs: []api.Func{}})
	refused(t, "the zero function", api.Program{Funs: []api.Func{{}}})
	hold(t, []row{{funs{`ret 1`}, ""}, {funs{`raise 1`}, uncaught + "? =1"}})
}

// P12.1: conditions and switches that are known, of small numbers, blocks, and such as fit no tag.
func TestConditions(t *testing.T) {
	const ask = ` { let 9 = print "t"; ret 1 } { let 9 = print "f"; ret 1 }`
	const pick = ` 0 { let 9 = print "a"; ret 1 } 7 { let 9 = print "b"; ret 1 } 1073741823 { let 9 = print "c"; ret 1 } { let 9 = print "else"; ret 1 }`
	const hide = `let 0 = ref v0; let 0 = get v0; `
	hold(t, []row{
		{funs{`if #0` + ask}, "f"}, {funs{`if #1` + ask}, "t"}, {funs{`if #2` + ask}, "t"}, {funs{`if #1073741823` + ask}, "t"},
		{funs{`let 0 = atom #0; if v0` + ask}, "f"}, {funs{`let 0 = atom #5; if v0` + ask}, "t"}, {funs{`let 0 = lt 2 1; if v0` + ask}, "f"}, {funs{`let 0 = ssub "a" 0; if v0` + ask}, "t"}, {funs{`let 0 = chr 0; if v0` + ask}, "f"},
		{funs{`if 1` + ask}, " stuck"}, {funs{`if "a"` + ask}, " stuck"}, {funs{`if %1` + ask}, " stuck"}, {funs{`if !1` + ask}, " stuck"}, {funs{`let 0 = block 1; if v0` + ask}, " stuck"}, {funs{`let 0 = block 0; if v0` + ask}, " stuck"}, {funs{`let 0 = print "p"; if v0` + ask}, "p stuck"},
		{funs{`switch #0` + pick}, "a"}, {funs{`switch #7` + pick}, "b"}, {funs{`switch #1073741823` + pick}, "c"}, {funs{`switch #1` + pick}, "else"}, {funs{`let 0 = block 0; switch v0` + pick}, "a"}, {funs{`let 0 = block 7 1 2; switch v0` + pick}, "b"}, {funs{`let 0 = block 8 1; switch v0` + pick}, "else"}, {funs{`let 0 = print "p"; switch v0` + pick}, "pa"},
		{funs{`switch 0` + pick}, " stuck"}, {funs{`switch "a"` + pick}, " stuck"}, {funs{`let 0 = ref 1; switch v0` + pick}, " stuck"}, {funs{`switch 1 { ret 1 }`}, " stuck"}, {funs{`switch #1 { let 9 = print "else"; ret 1 }`}, "else"}, {funs{`let 0 = block 3 1; switch v0 { let 9 = print "else"; ret 1 }`}, "else"}, {funs{`let 0 = closure f1; switch v0 { ret 1 }`, `2: ret 1`}, " stuck"},
		{funs{`let 0 = block 3 1; ` + hide + `switch v0 { let 9 = print "else"; ret 1 }`}, "else"}, {funs{`let 0 = bnew 1; ` + hide + `switch v0 { ret 1 }`}, " stuck"}, {funs{`let 0 = ref #3; let 1 = get v0; let 2 = ord v1; switch v1 { let 9 = print "else"; ret 1 }`}, "else"},
		// what is known in a branch
		{funs{`let 0 = atom #3; ` + hide + `if v0 { if v0` + ask + ` } { ret 1 }`}, "t"}, {funs{`let 0 = atom #0; ` + hide + `if v0 { ret 1 } { if v0` + ask + ` }`}, "f"}, {funs{`let 0 = atom #3; ` + hide + `if v0 { switch v0 1 { let 9 = print "no"; ret 1 } 3 { let 9 = print "three"; ret 1 } { ret 1 } } { ret 1 }`}, "three"},
		{funs{`let 0 = atom #7; ` + hide + `switch v0 7 { if v0` + ask + ` } { ret 1 }`}, "t"}, {funs{`let 0 = block 7 1; ` + hide + `switch v0 7 { if v0` + ask + ` } { ret 1 }`}, " stuck"}, {funs{`let 0 = block 0 1; ` + hide + `switch v0 0 { if v0` + ask + ` } { ret 1 }`}, " stuck"}, {funs{`let 0 = atom #0; ` + hide + `switch v0 0 { if v0` + ask + ` } { ret 1 }`}, "f"},
		{funs{`let 0 = block 7 1; ` + hide + `switch v0 7 { switch v0 7 { let 1 = field 0 v0; let 1 = itext v1; let 1 = print v1; ret 1 } { ret 1 } } { ret 1 }`}, "1"}, {funs{`let 0 = block 8 1; ` + hide + `switch v0 7 { ret 1 } { switch v0 7 { ret 1 } 8 { let 1 = print "8"; ret 1 } { ret 1 } }`}, "8"},
		{funs{`let 0 = block 7; ` + hide + `switch v0 7 { let 1 = eq v0 #7; let 1 = ord v1; let 1 = itext v1; let 1 = print v1; ret 1 } { ret 1 }`}, "0"}, {funs{`let 0 = atom #7; ` + hide + `switch v0 7 { let 1 = eq v0 #7; let 1 = ord v1; let 1 = itext v1; let 1 = print v1; ret 1 } { ret 1 }`}, "1"},
		{funs{`let 0 = atom #2; ` + hide + `let 1 = clt v0 #5; switch v0 2 { let 2 = ord v0; let 2 = itext v2; let 2 = print v2; ret 1 } { ret 1 }`}, "2"},
		// what is known in one branch is not in another, or behind it
		{funs{`let 0 = atom #3; ` + hide + `try { if v0 { ret 1 } { raise v0 } } catch 1 { ret 2 } then 2; if v0` + ask}, "t"}, {funs{`let 0 = atom #0; ` + hide + `try { if v0 { let 1 = print "no"; ret 1 } { let 1 = print "z"; raise v0 } } catch 1 { if v0 { ret 3 } { ret 2 } } then 2; if v0` + ask}, "zf"},
		{funs{`let 0 = atom 5; ` + hide + `let 1 = atom #1; let 2 = ref v1; let 1 = get v2; try { if v1 { raise 1 } { let 3 = add v0 1; ret v3 } } catch 3 { ret 0 } then 3; let 4 = eq v0 5; let 4 = lt v3 1; if v4` + ask}, "t"},
		{funs{`let 0 = atom "a"; ` + hide + `try { let 1 = add v0 1; ret v1 } catch 2 { ret 1 } then 3; let 4 = print "no"; ret 1`}, " stuck"},
		// a truth is returned as it is; another small number is not
		{funs{`let 0 = call f1 3; if v0` + ask, `1: let 1 = ref v0; let 1 = get v1; let 2 = lt v1 4; if v2 { ret #1 } { ret #0 }`}, "t"}, {funs{`let 0 = call f1 5; let 0 = ord v0; let 0 = itext v0; let 0 = print v0; ret 1`, `1: let 1 = ref v0; let 1 = get v1; let 2 = lt v1 4; if v2 { ret #0 } { ret #1 }`}, "1"},
		{funs{`let 0 = call f1 #5; let 0 = ord v0; let 0 = itext v0; let 0 = print v0; ret 1`, `1: let 1 = ref v0; let 1 = get v1; let 2 = ord v1; if v1 { ret #1 } { ret #0 }`}, "1"}, {funs{`let 0 = call f1 4; let 0 = ord v0; let 0 = itext v0; let 0 = print v0; ret 1`, `1: let 1 = ref v0; let 1 = get v1; let 2 = lt v1 4; if v2 { ret #1 } { ret #2 }`}, "2"},
		{funs{`let 0 = call f1 65; let 0 = ord v0; let 0 = itext v0; let 0 = print v0; ret 1`, `1: let 1 = ref v0; let 1 = get v1; let 2 = chr v1; if v2 { ret #1 } { ret #0 }`}, "1"}, {funs{`let 0 = call f1 "ab" 1; let 0 = ord v0; let 0 = itext v0; let 0 = print v0; ret 1`, `2: let 2 = ref v0; let 2 = get v2; let 2 = ssub v2 v1; if v2 { switch v2 98 { ret #7 } { ret #8 } } { ret #0 }`}, "7"},
	})
}

// P12.1: locals that are set more than once, on one way and on several, ahead of, within and behind a try and its handler.
func TestLocals(t *testing.T) {
	const show = `let 9 = print v0; ret 1`
	const flip = `let 8 = ref #1; let 8 = get v8; `
	hold(t, []row{
		{funs{`let 0 = atom "a"; let 1 = atom v0; let 0 = atom "b"; let 0 = cat v1 v0; ` + show}, "ab"}, {funs{`let 0 = atom "a"; let 1 = atom v0; let 0 = cat v1 v0; let 1 = cat v0 v1; let 0 = cat v1 v0; ` + show}, "aaaaa"}, {funs{`tail f1 "a" "b"`, `2: let 2 = atom v0; let 0 = atom v1; let 1 = atom v2; let 0 = cat v0 v1; ` + show}, "ba"}, {funs{`tail f1 "a" "b"`, `2: let 0 = cat v1 v0; let 1 = cat v0 v1; let 0 = atom v1; ` + show}, "bab"},
		{funs{`let 0 = atom "a"; ` + flip + `if v8 { let 0 = atom "b"; ` + show + ` } { ` + show + ` }`}, "b"}, {funs{`let 0 = atom "a"; if #0 { let 0 = atom "b"; ` + show + ` } { ` + show + ` }`}, "a"},
		// set within a try's first kid, read in its handler, behind it, and behind that
		{funs{`let 0 = atom "a"; try { let 0 = atom "b"; ret 1 } catch 1 { ret 1 } then 1; ` + show}, "b"}, {funs{`let 0 = atom "a"; try { let 0 = atom "b"; raise 1 } catch 1 { ret v0 } then 1; let 0 = cat v0 v1; ` + show}, "bb"}, {funs{`let 0 = atom "a"; try { let 0 = atom "b"; raise 1 } catch 1 { let 0 = atom "c"; ret 1 } then 1; ` + show}, "c"}, {funs{`let 0 = atom "a"; try { raise "b" } catch 0 { ret 1 } then 1; ` + show}, "b"}, {funs{`let 0 = atom "a"; try { ret "b" } catch 0 { ret 1 } then 1; ` + show}, "a"}, {funs{`let 0 = atom "a"; try { ret "b" } catch 1 { ret 1 } then 0; ` + show}, "b"},
		{funs{`let 0 = atom "a"; try { ` + flip + `if v8 { ret 1 } { let 0 = atom "b"; ret 2 } } catch 1 { ret 3 } then 1; ` + show}, "a"}, {funs{`let 0 = atom "a"; try { ` + flip + `if v8 { let 0 = atom "b"; ret 1 } { ret 2 } } catch 1 { ret 3 } then 1; ` + show}, "b"}, {funs{`let 0 = atom "a"; try { let 0 = atom "b"; let 0 = div 1 0; ret 1 } catch 1 { ret 3 } then 1; ` + show}, "b"}, {funs{`let 0 = atom "a"; try { let 0 = atom "b"; let 1 = call f1; let 0 = atom "c"; ret 1 } catch 1 { ret v0 } then 1; let 0 = cat v0 v1; ` + show, `raise 1`}, "bb"},
		{funs{`let 0 = atom "a"; let 1 = atom v0; try { let 0 = atom "b"; raise 1 } catch 2 { let 2 = cat v0 v1; ret v2 } then 2; let 0 = cat v2 v1; ` + show}, "baa"}, {funs{`let 0 = atom "a"; let 1 = block 0 v0; let 3 = closure f1 v0; try { let 0 = atom "b"; ret 1 } catch 2 { ret 1 } then 2; let 1 = field 0 v1; let 3 = capture 0 v3; let 1 = cat v1 v3; let 0 = cat v1 v0; ` + show, `2: ret 1`}, "aab"},
		{funs{`let 0 = atom "a"; try { try { let 0 = atom "b"; raise 1 } catch 1 { raise 2 } then 2; ret 1 } catch 1 { ret 1 } then 2; ` + show}, "b"}, {funs{`let 0 = atom "a"; try { try { raise "b" } catch 0 { raise v0 } then 2; ret 1 } catch 1 { ret 1 } then 2; ` + show}, "b"}, {funs{`let 0 = atom "a"; try { try { raise "b" } catch 0 { raise v0 } then 2; ret 1 } catch 1 { ret v0 } then 0; ` + show}, "b"}, {funs{`let 0 = atom "a"; try { try { ret 1 } catch 2 { ret 1 } then 0; ret 1 } catch 1 { ret 1 } then 1; let 0 = itext v0; ` + show}, "1"},
		{funs{`let 0 = atom "a"; try { let 0 = atom "b"; try { let 0 = atom "c"; raise 1 } catch 1 { ret 1 } then 1; let 2 = print v0; raise 1 } catch 1 { ret 1 } then 1; ` + show}, "cc"}, {funs{`let 0 = atom "a"; try { ` + flip + `if v8 { let 0 = atom "b"; raise 1 } { let 0 = atom "c"; raise 2 } } catch 1 { let 0 = cat v0 "d"; ret v0 } then 1; let 0 = cat v0 v1; ` + show}, "bdbd"},
		// parameters that are
		{funs{`let 0 = call f1 "a"; let 0 = call f1 "b"; ` + show, `1: try { let 0 = cat v0 "x"; raise 1 } catch 1 { ret 1 } then 1; let 2 = print v0; ret v0`}, "axbxbx"}, {funs{`tail f1 "a" "b"`, `2: try { raise v1 } catch 0 { ret 1 } then 1; let 9 = print v0; ret v0`}, "b"}, {funs{`let 0 = closure f1; let 0 = apply v0 "a"; ` + show, `2: try { let 1 = cat v1 "x"; raise v0 } catch 0 { ret 1 } then 2; ret v1`}, "ax"},
		// handed to functions that could be laid in
		{funs{`let 0 = atom "a"; try { let 0 = atom "b"; ret 1 } catch 1 { ret 1 } then 1; let 2 = call f1 v0; let 3 = call f1 v0; ret 1`, `1: let 1 = cat v0 v0; let 1 = print v1; ret v0`}, "bbbb"}, {funs{`let 0 = atom "a"; try { let 2 = call f1 v0; let 0 = atom "b"; raise v2 } catch 1 { let 3 = print v1; tail f1 v0 } then 1; let 3 = print v1; ret 1`, `1: ret v0`}, "ab"},
		{funs{`let 0 = atom "a"; let 1 = ref #1; let 1 = get v1; try { if v1 { let 0 = atom "b"; ret 1 } { ret 2 } } catch 2 { raise v2 } then 2; let 3 = call f1 v0; let 0 = atom v3; ` + show, `1: let 1 = cat v0 v0; ret v1`}, "bb"},
		// far numbers
		{funs{`let 199999 = atom "a"; try { let 199999 = atom "b"; ret 1 } catch 1 { ret 1 } then 0; let 0 = atom v199999; ` + show}, "b"},
	})
}

// P12.1: what is raised, and handled, in each place, in one another.
func TestRaise(t *testing.T) {
	const show = `let 9 = print v9; ret 1`
	const flip = `let 8 = ref #1; let 8 = get v8; `
	hold(t, []row{
		{funs{`try { raise "a" } catch 0 { ret v0 } then 9; ` + show}, "a"}, {funs{`try { raise "a" } catch 0 { raise v0 } then 9; ` + show}, uncaught + "? =1"}, {funs{`try { ret "a" } catch 0 { raise v0 } then 9; ` + show}, "a"}, {funs{`try { raise "a" } catch 0 { let 1 = print "h"; raise v0 } then 9; ` + show}, "h" + uncaught + "? =1"}, {funs{`try { raise "a" } catch 0 { raise "b" } then 9; ` + show}, uncaught + "? =1"}, {funs{`let 5 = block 0 !2 #0; try { raise "a" } catch 0 { raise v5 } then 9; ` + show}, uncaught + "Div =1"},
		{funs{`try { try { raise "a" } catch 0 { raise "b" } then 1; ret "no" } catch 0 { ret v0 } then 9; ` + show}, "b"}, {funs{`try { try { raise "a" } catch 0 { ret "b" } then 1; raise v1 } catch 0 { ret v0 } then 9; ` + show}, "b"}, {funs{`try { raise "a" } catch 0 { try { raise v0 } catch 1 { let 1 = cat v1 v0; ret v1 } then 2; ret v2 } then 9; ` + show}, "aa"}, {funs{`try { ` + flip + `if v8 { raise "a" } { ret "b" } } catch 0 { ret v0 } then 9; ` + show}, "a"}, {funs{`try { ` + flip + `if v8 { ret "a" } { raise "b" } } catch 0 { ret v0 } then 9; ` + show}, "a"},
		{funs{`try { ` + flip + `if v8 { ret "a" } { raise "b" } } catch 0 { raise v0 } then 9; ` + show}, "a"}, {funs{`try { ` + flip + `if v8 { raise "a" } { ret "b" } } catch 0 { raise v0 } then 9; ` + show}, uncaught + "? =1"}, {funs{`try { ` + flip + `if v8 { raise "a" } { raise "b" } } catch 0 { raise v0 } then 9; ` + show}, uncaught + "? =1"}, {funs{`try { ` + flip + `switch v8 0 { ret "a" } 1 { ret "b" } 2 { ret "c" } 3 { ret "d" } { ret "e" } } catch 0 { raise v0 } then 9; let 7 = print v9; ` + show}, "bb"}, {funs{`try { ` + flip + `switch v8 0 { ret "a" } 1 { ret "b" } { ret "e" } } catch 0 { raise v0 } then 9; let 7 = print v9; let 6 = cat v9 "x"; let 9 = cat v6 v6; ` + show}, "bbxbx"},
		// what can't raise needs no handler; what can does
		{funs{`try { let 0 = ref "a"; let 1 = get v0; ret v1 } catch 0 { ret "no" } then 9; ` + show}, "a"}, {funs{`try { let 0 = ref "a"; let 1 = get v0; ` + flip + `if v8 { ret v1 } { ret "b" } } catch 0 { let 1 = print "no"; ret "no" } then 9; ` + show}, "a"}, {funs{`try { let 0 = print "p"; ret "a" } catch 0 { ret "no" } then 9; ` + show}, "pa"}, {funs{`try { let 0 = exit 3; ret "a" } catch 0 { ret "no" } then 9; ` + show}, " =3"}, {funs{`try { let 0 = writefile "" "a"; ret "a" } catch 0 { ret "io" } then 9; ` + show}, "io"}, {funs{`try { let 0 = inputline 1; ret v0 } catch 0 { ret "no" } then 9; ` + show}, "one\n"}, {funs{`try { let 0 = add "a" 1; ret "a" } catch 0 { ret "no" } then 9; ` + show}, " stuck"},
		{funs{`let 0 = ref 3; let 0 = get v0; try { let 1 = div v0 0; ret "a" } catch 1 { ret "div" } then 9; ` + show}, "div"}, {funs{`try { let 0 = vsub "a" 0; ret "a" } catch 1 { ret "no" } then 9; ` + show}, " stuck"}, {funs{`let 0 = vector #0; try { let 1 = vsub v0 0; ret v1 } catch 1 { ret "sub" } then 9; ` + show}, "sub"}, {funs{`let 0 = bnew 0; try { let 1 = bset v0 0 1; ret "no" } catch 1 { ret "sub" } then 9; ` + show}, "sub"},
		// in functions, as tails, by closures
		{funs{`try { tail f1 "a" } catch 0 { ret v0 } then 9; ` + show, `1: raise v0`}, "a"}, {funs{`try { let 0 = call f1 "a"; ret "no" } catch 0 { ret v0 } then 9; ` + show, `1: let 1 = cat v0 v0; raise v1`}, "aa"}, {funs{`let 9 = call f1 "a"; ` + show, `1: try { tail f2 v0 } catch 1 { ret v1 } then 2; let 2 = cat v2 "b"; ret v2`, `1: let 1 = cat v0 "c"; raise v1`}, "acb"}, {funs{`let 0 = closure f1; try { go v0 "a" } catch 1 { ret v1 } then 9; ` + show, `2: raise v1`}, "a"}, {funs{`let 0 = closure f1; let 0 = ref v0; let 0 = get v0; try { let 1 = apply v0 "a"; ret "no" } catch 1 { ret v1 } then 9; ` + show, `2: raise v1`}, "a"},
		{funs{`let 9 = call f1 "a"; ` + show, `1: try { tail f2 v0 } catch 1 { raise v1 } then 2; ret v2`, `1: let 1 = cat v0 "c"; ret v1`}, "ac"}, {funs{`let 9 = call f1 "a"; ` + show, `1: try { tail f2 v0 } catch 1 { raise v1 } then 2; let 3 = print v2; ret v2`, `1: let 1 = cat v0 "c"; ret v1`}, "acac"}, {funs{`let 9 = call f1 "a"; let 9 = call f1 "b"; ` + show, `1: raise v0`}, uncaught + "? =1"},
		// names of what is not caught
		{funs{`let 0 = ref "Own"; let 0 = block 0 v0 1; raise v0`}, uncaught + "Own =1"}, {funs{`let 1 = set !2 "Other"; let 0 = div 1 0; ret 1`}, uncaught + "Other =1"}, {funs{`let 0 = set !2 7; let 0 = div 1 0; ret 1`}, uncaught + "? =1"}, {funs{`let 0 = get !2; let 1 = set !2 "X"; let 2 = get !2; let 0 = cat v0 v2; let 0 = print v0; ret 1`}, "DivX"}, {funs{`let 0 = block 0 !5 #0; let 1 = field 0 v0; let 2 = same v1 !5; let 3 = same v1 !4; let 2 = ord v2; let 3 = ord v3; let 2 = add v2 v2; let 2 = add v2 v3; let 2 = itext v2; let 2 = print v2; raise v0`}, "2" + uncaught + "Io =1"},
	})
}

// P12.1: functions that call themselves and one another, in the place of a return and not; functions that nothing calls, that are
// called once, that are called many times, that are reached by a closure alone.
func TestFunctions(t *testing.T) {
	const show = `let 9 = print v9; ret 1`
	hold(t, []row{
		{funs{`let 9 = call f1 5 ""; ` + show, `2: let 2 = le v0 0; if v2 { ret v1 } { let 3 = sub v0 1; let 4 = itext v0; let 4 = cat v1 v4; tail f1 v3 v4 }`}, "54321"}, {funs{`let 9 = call f1 5; ` + show, `1: let 1 = le v0 0; if v1 { ret "" } { let 2 = sub v0 1; let 3 = call f1 v2; let 4 = itext v0; let 4 = cat v3 v4; ret v4 }`}, "12345"},
		{funs{`let 9 = call f1 5 ""; ` + show, `2: let 2 = le v0 0; if v2 { ret v1 } { let 3 = sub v0 1; let 4 = cat v1 "e"; tail f2 v3 v4 }`, `2: let 2 = le v0 0; if v2 { ret v1 } { let 3 = sub v0 1; let 4 = cat v1 "o"; tail f1 v3 v4 }`}, "eoeoe"}, {funs{`let 9 = call f1 3; ` + show, `1: let 1 = le v0 0; if v1 { ret "." } { let 2 = sub v0 1; let 3 = call f2 v2; let 3 = cat v3 "e"; ret v3 }`, `1: let 1 = le v0 0; if v1 { ret "," } { let 2 = sub v0 1; let 3 = call f1 v2; let 3 = cat v3 "o"; ret v3 }`}, ",eoe"},
		{funs{`let 0 = call f1; let 0 = call f1; let 0 = call f1; ret 1`, `let 0 = print "a"; ret v0`}, "aaa"}, {funs{`let 9 = call f1 "a"; ` + show, `1: tail f2 v0 "b"`, `2: let 2 = cat v1 v0; ret v2`, `raise 1`, `tail f5`, `tail f4`}, "ba"}, {funs{`let 0 = closure f3; let 9 = apply v0 "a"; ` + show, `raise 1`, `tail f1`, `2: let 2 = cat v1 v1; ret v2`}, "aa"}, {funs{`let 0 = closure f1; let 9 = apply v0 "a"; ` + show, `2: let 2 = closure f2; go v2 v1`, `2: let 2 = cat v1 "2"; ret v2`}, "a2"},
		// the beginning is called, too
		{funs{`let 0 = inputline 1; let 0 = size v0; let 1 = le v0 0; if v1 { ret 1 } { let 2 = print "l"; tail f0 }`}, "llll"}, {funs{`let 0 = inputline 1; let 0 = size v0; let 1 = le v0 0; if v1 { ret 1 } { let 2 = call f0; let 2 = print "l"; ret v2 }`}, "llll"}, {funs{`let 0 = inputline 1; let 0 = size v0; let 1 = le v0 0; if v1 { ret 1 } { let 2 = print "l"; tail f1 }`, `tail f0`}, "llll"}, {funs{`let 0 = inputline 1; let 0 = size v0; let 1 = le v0 0; if v1 { ret 1 } { let 2 = call f1; let 2 = call f1; ret v2 }`, `let 0 = print "m"; tail f0`}, "mmmmmmmm"},
		// arguments that nothing needs, or that are only handed on
		{funs{`let 0 = ref "a"; let 9 = call f1 v0 1 "b"; ` + show, `3: let 3 = print "p"; ret v2`}, "pb"}, {funs{`let 9 = call f1 "x" 3; ` + show, `2: let 2 = le v1 0; if v2 { ret "end" } { let 3 = sub v1 1; let 4 = print "."; tail f1 v0 v3 }`}, "...end"}, {funs{`let 9 = call f1 "x" "y" 3; ` + show, `3: let 3 = le v2 0; if v3 { ret v0 } { let 4 = sub v2 1; tail f1 v1 v0 v4 }`}, "y"}, {funs{`let 9 = call f1 "x" "y" "z" 3; ` + show, `4: let 4 = le v3 0; if v4 { ret "e" } { let 5 = sub v3 1; tail f1 v1 v2 v0 v5 }`}, "e"}, {funs{`let 0 = closure f1 "c"; let 1 = call f1 v0 "a"; let 9 = call f1 v0 "b"; let 9 = apply v0 "d"; ` + show, `2: let 2 = print v1; ret v1`}, "abdd"}, {funs{`let 0 = closure f1 "c"; let 0 = ref v0; let 0 = get v0; let 9 = apply v0 "a"; let 0 = call f1 1 "b"; ` + show, `2: let 2 = print v1; let 3 = call f2 v0 v1; ret v3`, `2: let 2 = cat v1 v1; ret v2`}, "abaa"},
		{funs{`let 0 = ref 5; let 9 = call f1 v0 "a"; ` + show, `2: tail f2 v0 v1`, `2: let 2 = ref v0; tail f3 v1 v2`, `2: ret v0`}, "a"}, {funs{`let 9 = call f1 ; ` + show, `let 0 = add 1 "a"; ret "no"`}, " stuck"},
		// what would be a tail
		{funs{`let 0 = call f1 3; ret v0`, `1: let 1 = le v0 0; if v1 { let 2 = print "e"; ret v2 } { let 2 = sub v0 1; let 3 = call f1 v2; ret v3 }`}, "e"}, {funs{`let 0 = closure f1; let 0 = ref v0; let 0 = get v0; let 0 = apply v0 3; ret v0`, `2: let 2 = print "p"; let 3 = le v1 0; if v3 { ret 1 } { let 4 = sub v1 1; let 5 = apply v0 v4; ret v5 }`}, "pppp"},
		// no end
		{funs{`tail f0`}, " .."}, {funs{`let 0 = call f0; ret 1`}, " .."}, {funs{`tail f1 1`, `1: let 1 = add v0 1; tail f1 v1`}, " .."}, {funs{`tail f1`, `tail f2`, `tail f1`}, " .."}, {funs{`let 0 = call f1; let 0 = print "no"; ret 1`, `let 0 = call f2; ret 1`, `let 0 = call f1; ret 1`}, " .."}, {funs{`let 0 = closure f1; go v0 v0`, `2: go v1 v1`}, " .."}, {funs{`let 0 = closure f1; let 1 = apply v0 v0; ret 1`, `2: let 2 = apply v1 v1; ret v2`}, " .."}, {funs{`let 0 = closure f1; let 1 = closure f2 v0; go v0 v1`, `2: go v1 v0`, `2: let 2 = capture 0 v0; go v1 v0`}, " .."}, {funs{`try { tail f1 } catch 0 { ret 1 } then 0; ret 1`, `tail f1`}, " .."}, {funs{`let 0 = closure f1 #0; let 1 = patch 0 v0 v0; go v0 1`, `2: let 2 = capture 0 v0; go v2 v1`}, " .."}, {funs{`let 0 = call f1; ret 1`, `try { tail f1 } catch 0 { raise v0 } then 0; ret v0`}, " .."},
	})
	// close to the greatest number of steps: just ended, and just not
	const loop = `1: let 1 = le v0 0; if v1 { let 2 = print "end"; ret v2 } { let 2 = sub v0 1; tail f1 v2 }`
	for n, want := range map[string]string{"4998": "end", "4999": "end ..", "5500": " .."} {
		p := program(t, `tail f1 `+n, loop)
		if got := told(runIn(t, p, worlds()[0], api.MaxFuel)); got != want {
			t.Errorf("%s: %s", n, got)
		}
		alike(t, p, made(t, p), worlds()[0], 5, 1000, 19996, 19997, api.MaxFuel-1, api.MaxFuel)
	}
}

// P12.1: closures that are patched, ahead of their use and behind it, captured values that are patched later, closures that are
// handed on, returned, kept in blocks, cells and vectors.
func TestClosures(t *testing.T) {
	const show = `let 9 = print v9; ret 1`
	const taken = `2: let 2 = capture 0 v0; let 2 = cat v2 v1; ret v2`
	hold(t, []row{
		{funs{`let 0 = closure f1 "a"; let 9 = apply v0 "b"; ` + show, taken}, "ab"}, {funs{`let 0 = closure f1 "a"; let 1 = patch 0 v0 "c"; let 9 = apply v0 "b"; ` + show, taken}, "cb"}, {funs{`let 0 = closure f1 "a"; let 9 = apply v0 "b"; let 1 = patch 0 v0 "c"; ` + show, taken}, "ab"}, {funs{`let 0 = closure f1 "a"; let 8 = apply v0 "b"; let 1 = patch 0 v0 "c"; let 9 = apply v0 "b"; let 9 = cat v8 v9; ` + show, taken}, "abcb"}, {funs{`let 0 = closure f1 "a" "d"; let 1 = patch 1 v0 "c"; let 9 = apply v0 "b"; ` + show, taken}, "ab"}, {funs{`let 0 = closure f1 "a"; let 2 = closure f1 "x"; let 1 = patch 0 v2 "c"; let 9 = apply v0 "b"; ` + show, taken}, "ab"},
		{funs{`let 0 = closure f1 "a"; let 2 = closure f2 "x"; let 1 = patch 0 v2 "c"; let 9 = apply v0 "b"; let 8 = capture 0 v2; let 9 = cat v9 v8; ` + show, taken, `2: ret 1`}, "abc"}, {funs{`let 0 = closure f1 "a"; let 1 = atom v0; let 2 = patch 0 v1 "c"; let 9 = capture 0 v0; ` + show, taken}, "c"}, {funs{`let 0 = closure f1 "a"; let 1 = call f2 v0; let 9 = capture 0 v0; ` + show, taken, `1: let 1 = patch 0 v0 "p"; ret v1`}, "p"}, {funs{`let 0 = closure f1 "a"; let 1 = ref v0; let 2 = get v1; let 3 = patch 0 v2 "p"; let 9 = capture 0 v0; ` + show, taken}, "p"}, {funs{`let 0 = closure f1 "a"; let 1 = block 0 v0; let 2 = call f2 v1; let 9 = apply v0 "!"; ` + show, taken, `1: let 1 = field 0 v0; let 1 = patch 0 v1 "p"; ret v1`}, "p!"},
		{funs{`let 0 = closure f1 "a"; let 1 = block 0 v0 #0; let 1 = block 1 v1; let 1 = vector v1; let 2 = vsub v1 0; let 3 = patch 0 v2 "p"; let 9 = apply v0 "!"; ` + show, taken}, "p!"}, {funs{`let 0 = closure f1 "a"; let 1 = closure f1 v0; let 2 = capture 0 v1; let 3 = patch 0 v2 "p"; let 9 = apply v0 "!"; ` + show, taken}, "p!"}, {funs{`let 0 = closure f1 "a"; let 1 = apply v0 "b"; let 9 = apply v0 "c"; let 9 = capture 0 v0; ` + show, `2: let 2 = capture 0 v0; let 2 = cat v2 v1; let 3 = patch 0 v0 v2; ret v2`}, "abc"}, {funs{`let 0 = call f2; let 9 = apply v0 "b"; let 1 = patch 0 v0 "z"; let 8 = apply v0 "b"; let 9 = cat v9 v8; ` + show, taken, `let 0 = closure f1 "a"; ret v0`}, "abzb"}, {funs{`let 0 = call f2 "x"; let 9 = apply v0 "b"; ` + show, taken, `1: let 1 = closure f1 v0; let 0 = atom "y"; ret v1`}, "xb"},
		// within a try: the patch is done, whatever is raised behind it
		{funs{`let 0 = closure f1 "a"; try { let 1 = patch 0 v0 "p"; raise 1 } catch 2 { let 2 = capture 0 v0; ret v2 } then 3; let 9 = apply v0 v3; ` + show, taken}, "pp"}, {funs{`let 0 = closure f1 "a"; try { let 1 = ref #1; let 1 = get v1; if v1 { raise 1 } { let 1 = patch 0 v0 "p"; ret "q" } } catch 2 { let 2 = capture 0 v0; ret v2 } then 3; let 9 = apply v0 v3; ` + show, taken}, "aa"},
		// known to each other
		{funs{`let 0 = closure f1 #0; let 1 = patch 0 v0 v0; let 9 = apply v0 3; ` + show, `2: let 2 = le v1 0; if v2 { ret "e" } { let 4 = capture 0 v0; let 5 = sub v1 1; let 6 = apply v4 v5; let 6 = cat v6 "+"; ret v6 }`}, "e+++"}, {funs{`let 0 = closure f1 #0; let 1 = closure f2 v0; let 2 = patch 0 v0 v1; go v0 3`, `2: let 2 = print "a"; let 3 = le v1 0; if v3 { ret 1 } { let 4 = capture 0 v0; let 5 = sub v1 1; go v4 v5 }`, `2: let 2 = print "b"; let 3 = capture 0 v0; let 4 = sub v1 1; go v3 v4`}, "ababa"},
		// handed on, returned, and applied there
		{funs{`let 0 = closure f1 "a"; let 9 = call f2 v0 "b"; ` + show, taken, `2: let 2 = apply v0 v1; let 3 = apply v0 v2; ret v3`}, "aab"}, {funs{`let 0 = closure f2 "a"; let 1 = apply v0 "b"; let 9 = apply v1 "c"; ` + show, `2: let 2 = capture 0 v0; let 3 = capture 1 v0; let 2 = cat v2 v3; let 2 = cat v2 v1; ret v2`, `2: let 2 = capture 0 v0; let 3 = closure f1 v2 v1; ret v3`}, "abc"}, {funs{`let 0 = closure f1 "a"; let 1 = block 0 v0 "b"; let 2 = field 0 v1; let 3 = field 1 v1; let 9 = apply v2 v3; ` + show, taken}, "ab"}, {funs{`let 0 = closure f1 "a"; let 1 = closure f2 v0; let 9 = apply v1 "b"; ` + show, taken, `2: let 2 = capture 0 v0; let 3 = apply v2 v1; go v2 v3`}, "aab"},
		// stuck
		{funs{`let 0 = closure f1; let 1 = capture 0 v0; ret 1`, `2: ret 1`}, " stuck"}, {funs{`let 0 = closure f1 1 2; let 1 = capture 2 v0; ret 1`, `2: ret 1`}, " stuck"}, {funs{`let 0 = closure f1; let 1 = patch 0 v0 1; ret 1`, `2: ret 1`}, " stuck"}, {funs{`let 0 = closure f1 1; let 1 = patch 1 v0 1; let 2 = print "no"; ret 1`, `2: ret 1`}, " stuck"}, {funs{`let 0 = closure f1 1; let 0 = ref v0; let 0 = get v0; let 1 = capture 0 v0; let 2 = capture 1 v0; ret 1`, `2: ret 1`}, " stuck"}, {funs{`let 0 = closure f1 1; let 0 = ref v0; let 0 = get v0; let 1 = capture 0 v0; let 2 = capture 0 v0; let 3 = field 0 v0; ret 1`, `2: ret 1`}, " stuck"}, {funs{`let 0 = block 0 1; let 0 = ref v0; let 0 = get v0; let 1 = field 0 v0; let 1 = field 0 v0; let 2 = field 1 v0; ret 1`}, " stuck"}, {funs{`let 0 = block 0 1; let 1 = field 1 v0; ret 1`}, " stuck"}, {funs{`let 0 = block 0 1; let 1 = capture 0 v0; ret 1`}, " stuck"}, {funs{`let 0 = block 0 1; go v0 1`}, " stuck"}, {funs{`let 0 = apply "a" 1; ret v0`}, " stuck"},
	})
}

// P12.1: cells and bytes that are themselves, made once and not twice; the order in which things are written; the exit in each
// place.
func TestThings(t *testing.T) {
	const show = `let 9 = ord v9; let 9 = itext v9; let 9 = print v9; ret 1`
	hold(t, []row{
		{funs{`let 0 = ref 1; let 1 = ref 1; let 9 = same v0 v1; ` + show}, "0"}, {funs{`let 0 = ref 1; let 1 = atom v0; let 9 = same v0 v1; ` + show}, "1"}, {funs{`let 0 = call f1; let 1 = call f1; let 9 = same v0 v1; ` + show, `let 0 = ref 1; ret v0`}, "0"}, {funs{`let 0 = call f1; let 1 = block 0 v0 v0; let 2 = field 0 v1; let 3 = field 1 v1; let 9 = same v2 v3; ` + show, `let 0 = ref 1; ret v0`}, "1"}, {funs{`let 0 = bnew 1; let 1 = atom v0; let 2 = bset v1 0 5; let 3 = bget v0 0; let 9 = eq v0 v1; let 3 = itext v3; let 3 = print v3; ` + show}, "51"}, {funs{`let 0 = bnew 1; let 1 = bnew 1; let 9 = eq v0 v1; ` + show}, "0"},
		{funs{`let 0 = ref "a"; let 1 = block 0 v0; let 2 = set v0 "b"; let 3 = field 0 v1; let 4 = get v3; let 5 = print v4; ret 1`}, "b"}, {funs{`let 0 = ref "a"; let 1 = get v0; let 2 = set v0 "b"; let 3 = get v0; let 4 = cat v1 v3; let 5 = print v4; ret 1`}, "ab"}, {funs{`let 0 = ref "a"; let 1 = call f1 v0; let 2 = get v0; let 3 = print v2; ret 1`, `1: let 1 = set v0 "c"; ret v1`}, "c"}, {funs{`let 0 = ref 1; let 1 = block 0 v0; let 2 = block 0 v0; let 9 = eq v1 v2; ` + show}, "1"}, {funs{`let 0 = block 0 1; let 1 = block 0 1; let 9 = eq v0 v1; ` + show}, "1"}, {funs{`let 0 = ref 1; let 9 = eq v0 v0; ` + show}, "1"}, {funs{`let 0 = atom %1; let 9 = eq v0 v0; ` + show}, " stuck"}, {funs{`let 0 = closure f1; let 9 = eq v0 v0; ` + show, `2: ret 1`}, " stuck"}, {funs{`let 0 = closure f1; let 1 = block 0 v0; let 9 = eq v1 v1; ret 1`, `2: ret 1`}, " stuck"},
		{funs{`let 0 = print "a"; let 1 = eprint "b"; let 2 = print "c"; let 3 = writefile "g" "d"; let 4 = print "e"; ret 1`}, "a!bc[g: d]e"}, {funs{`let 0 = call f1 "a"; let 1 = call f1 "b"; let 2 = call f2; ret v0`, `1: let 1 = print v0; ret v1`, `let 0 = call f1 "c"; let 1 = print "d"; ret v0`}, "abcd"}, {funs{`let 0 = inputline 1; let 1 = inputline 1; let 2 = print v1; let 3 = print v0; ret 1`}, "two\none\n"}, {funs{`let 0 = inputline 1; let 1 = inputline 1; let 2 = print v1; ret 1`}, "two\n"}, {funs{`let 0 = readfile "f"; let 1 = writefile "f" "new"; let 2 = readfile "f"; let 0 = cat v0 v2; let 0 = print v0; ret 1`}, "[f: new]datanew"},
		{funs{`let 0 = exit 3; let 1 = print "no"; ret 1`}, " =3"}, {funs{`let 0 = print "a"; let 1 = call f1; let 2 = print "no"; ret 1`, `let 0 = exit ~1; ret 1`}, "a =255"}, {funs{`try { let 0 = exit 7; ret 1 } catch 0 { let 1 = print "no"; ret 1 } then 1; let 2 = print "no"; ret 1`}, " =7"}, {funs{`try { raise 1 } catch 0 { let 1 = exit 256; ret 1 } then 1; let 2 = print "no"; ret 1`}, ""}, {funs{`let 0 = ref 9; let 0 = get v0; let 1 = exit v0; ret 1`}, " =9"}, {funs{`let 0 = exit #3; ret 1`}, " stuck"},
		// texts and integers as great as may be
		{funs{`let 0 = atom $text; let 1 = size v0; let 1 = itext v1; let 1 = print v1; try { let 2 = cat v0 "a"; ret "no" } catch 2 { ret "size" } then 2; let 2 = print v2; ret 1`}, "65536size"}, {funs{`let 0 = atom $most; let 1 = atom v0; try { let 2 = add v1 1; ret "no" } catch 2 { ret "size" } then 2; let 2 = print v2; let 3 = sub v1 v0; let 3 = itext v3; let 3 = print v3; ret 1`}, "size0"}, {funs{`let 0 = atom $more; let 1 = block 0 v0 v0; let 2 = field 0 v1; let 3 = field 1 v1; let 3 = eq v2 v3; let 9 = atom v3; ` + show}, "1"}, {funs{`let 0 = call f1 $more; let 1 = call f1 $most; let 0 = lt v1 v0; let 9 = atom v0; ` + show, `1: let 1 = block 0 v0; let 2 = field 0 v1; ret v2`}, "1"}, {funs{`let 0 = mul $8 $8; let 1 = mul v0 v0; let 2 = mul v1 v1; let 3 = div v2 v1; let 3 = eq v3 v1; let 9 = atom v3; ` + show}, "1"},
	})
	if !strings.Contains(told(runIn(t, made(t, program(t, `let 0 = ref 1; let 0 = set v0 v0; let 0 = print "a"; ret 1`)), worlds()[0], 20)), "a") {
		t.Error("a cell in itself")
	}
}
