package opt_test

import (
	"strings"
	"testing"
)

// What is left of programs: which program it is is free, but it is to be smaller.
func TestLeft(t *testing.T) {
	const hide = `let 0 = ref %s; let 1 = get v0; `
	hidden := func(atom string) string { return strings.Replace(hide, "%s", atom, 1) }
	for _, r := range []struct {
		funs funs
		left string
	}{
		{funs{`let 0 = mul 2 3; let 1 = add v0 36; let 2 = itext v1; let 3 = print v2; ret v3`}, `0: let 0 = print "42"; ret v0`},
		// copies are put in
		{funs{hidden(`"a"`) + `let 2 = atom v1; let 3 = atom v2; let 4 = print v3; ret v3`}, `0: ` + hidden(`"a"`) + `let 2 = print v1; ret v1`},
		// fields and captured values are known
		{funs{hidden(`"a"`) + `let 2 = block 0 v1 "b"; let 3 = field 0 v2; let 3 = print v3; ret v3`}, `0: ` + hidden(`"a"`) + `let 2 = print v1; ret v2`}, {funs{hidden(`"a"`) + `let 2 = field 0 v1; let 3 = field 0 v1; let 4 = field 1 v1; let 5 = cat v2 v3; ret v5`}, `0: ` + hidden(`"a"`) + `let 2 = field 0 v1; let 3 = field 1 v1; let 4 = cat v2 v2; ret v4`}, {funs{hidden(`"a"`) + `let 2 = field 1 v1; let 3 = field 0 v1; ret v2`}, `0: ` + hidden(`"a"`) + `let 2 = field 1 v1; ret v2`},
		// conditions are decided
		{funs{hidden(`#1`) + `if v1 { if v1 { ret 1 } { ret 2 } } { if v1 { ret 3 } { ret 4 } }`}, `0: ` + hidden(`#1`) + `if v1 { ret 1 } { ret 4 }`}, {funs{hidden(`#1`) + `switch v1 5 { switch v1 6 { ret 1 } { ret 2 } } { ret v1 }`}, `0: ` + hidden(`#1`) + `switch v1 5 { ret 2 } { ret v1 }`}, {funs{hidden(`3`) + `let 2 = lt v1 4; if v2 { ret #1 } { ret #0 }`}, `0: ` + hidden(`3`) + `let 2 = lt v1 4; ret v2`}, {funs{`let 0 = print "a"; switch v0 0 { ret 1 } { ret 2 }`}, `0: let 0 = print "a"; ret 1`}, {funs{hidden(`3`) + `let 2 = eq v1 3; let 3 = lt v1 4; let 4 = eq v1 v1; ret v4`}, `0: ` + hidden(`3`) + `let 2 = eq v1 3; let 3 = lt v1 4; ret #1`},
		{funs{hidden(`3`) + `let 2 = lt v1 4; let 3 = ord v2; let 3 = itext v3; let 3 = print v3; if v2 { ret #1 } { ret #0 }`}, `0: ` + hidden(`3`) + `let 2 = lt v1 4; let 3 = ord v2; let 4 = itext v3; let 5 = print v4; ret v2`}, {funs{hidden(`#0`) + `let 2 = vector v1; let 3 = field 0 v1; let 4 = field 0 v1; let 5 = eq v3 v4; ret v5`}, `0: ` + hidden(`#0`) + `let 2 = vector v1; let 3 = field 0 v1; let 4 = eq v3 v3; ret v4`},
		// a local that is another one in another branch
		{funs{hidden(`#1`) + `if v1 { let 2 = print "a"; ret v2 } { try { let 2 = atom "b"; tail f1 v2 } catch 2 { ret v2 } then 3; let 2 = print v3; ret v2 }`, `1: let 1 = cat v0 v0; raise v1`}, `0: ` + hidden(`#1`) + `if v1 { let 2 = print "a"; ret v2 } { let 2 = print "bb"; ret v2 }`},
		// what nothing needs is left out; what may raise, or be stuck, is not
		{funs{hidden(`3`) + `let 2 = add v1 1; let 3 = lt v2 4; let 4 = rfromint v2; let 5 = rneg v4; let 6 = ref v5; let 7 = block 0 v6; let 8 = closure f1 v7; ret 1`, `2: ret 1`}, `0: ` + hidden(`3`) + `let 2 = add v1 1; ret 1`}, {funs{hidden(`3`) + `let 2 = lt v1 4; ret 1`}, `0: ` + hidden(`3`) + `let 2 = lt v1 4; ret 1`}, {funs{hidden(`3`) + `let 2 = print "a"; ret 1`}, `0: let 0 = print "a"; ret 1`},
		// tails
		{funs{`let 0 = call f1 1; ret v0`, `1: let 1 = add v0 1; let 2 = call f1 v1; ret v2`}, "0: tail f1 1\n1: let 1 = add v0 1; tail f1 v1"}, {funs{hidden(`1`) + `let 2 = apply v1 v0; ret v2`}, `0: ` + hidden(`1`) + `go v1 v0`},
		// functions are laid in their calls' places; those that nothing reaches are left out
		{funs{`let 0 = call f1 "a"; let 1 = call f1 "b"; ret 1`, `1: let 1 = print v0; ret v1`, `tail f3`, `tail f2`}, `0: let 0 = print "a"; let 1 = print "b"; ret 1`}, {funs{`let 0 = closure f1 "c"; let 1 = apply v0 "a"; let 2 = apply v0 "b"; ret 1`, `2: let 2 = capture 0 v0; let 3 = cat v2 v1; let 4 = print v3; ret v4`}, `0: let 0 = print "ca"; let 1 = print "cb"; ret 1`}, {funs{hidden(`#1`) + `if v1 { tail f1 1 } { tail f1 2 }`, `1: let 1 = itext v0; let 2 = print v1; ret v2`}, `0: ` + hidden(`#1`) + `if v1 { let 2 = print "1"; ret v2 } { let 2 = print "2"; ret v2 }`},
		{funs{`let 0 = inputline 1; let 1 = print v0; tail f1`, `let 0 = print "m"; tail f0`}, `0: let 0 = inputline 1; let 1 = print v0; let 2 = print "m"; tail f0`},
		{funs{`let 0 = call f1 3; let 1 = call f1 4; ret 1`, `1: let 1 = print "a"; tail f2 v0`, `1: let 1 = le v0 0; if v1 { ret 1 } { let 2 = sub v0 1; tail f2 v2 }`}, "0: let 0 = print \"a\"; let 1 = call f1 3; let 2 = print \"a\"; let 3 = call f1 4; ret 1\n1: let 1 = le v0 0; if v1 { ret 1 } { let 2 = sub v0 1; tail f1 v2 }"},
		// parameters that nothing needs
		{funs{`let 0 = closure f1; let 1 = call f1 v0 9; ret 1`, `2: let 2 = print "a"; let 3 = sub v1 1; tail f1 v0 v3`}, "0: let 0 = call f1 9; ret 1\n1: let 1 = print \"a\"; let 2 = sub v0 1; tail f1 v2"},
		// tries that are not needed
		{funs{hidden(`0`) + `try { try { let 2 = div 1 v1; ret "a" } catch 2 { ret "b" } then 2; ret v2 } catch 2 { ret "no" } then 2; let 3 = print v2; ret v3`}, `0: ` + hidden(`0`) + `try { let 2 = div 1 v1; ret "a" } catch 2 { ret "b" } then 2; let 3 = print v2; ret v3`},
		{funs{`try { ret "a" } catch 0 { ret "b" } then 1; let 2 = print v1; ret v2`}, `0: let 0 = print "a"; ret v0`}, {funs{`try { raise "a" } catch 0 { let 1 = print v0; ret v1 } then 1; let 2 = print "b"; ret v1`}, `0: let 0 = print "a"; let 1 = print "b"; ret v0`}, {funs{hidden(`#1`) + `try { if v1 { ret "a" } { raise "b" } } catch 2 { raise v2 } then 2; let 3 = print v2; ret v3`}, `0: ` + hidden(`#1`) + `if v1 { let 2 = print "a"; ret v2 } { raise "b" }`}, {funs{hidden(`#1`) + `try { if v1 { ret #1 } { ret #0 } } catch 2 { raise v2 } then 2; if v2 { ret "a" } { ret "b" }`}, `0: ` + hidden(`#1`) + `if v1 { ret "a" } { ret "b" }`}, {funs{hidden(`"a"`) + `try { let 2 = print "p"; let 3 = ref v2; ret v1 } catch 2 { ret 1 } then 4; let 5 = print v4; ret v5`}, `0: ` + hidden(`"a"`) + `let 2 = print "p"; let 3 = print v1; ret v3`},
	} {
		p := program(t, r.funs...)
		if got := shown(made(t, p)); got != r.left {
			t.Errorf("%s\n got  %s\n want %s", strings.Join(r.funs, " | "), got, r.left)
		}
		for _, w := range worlds() {
			alike(t, p, made(t, p), w, 60, 500)
		}
	}
}
