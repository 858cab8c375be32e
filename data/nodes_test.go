package data_test

import (
	"math"
	"strconv"
	"strings"
	"testing"

	"smithy/api"
)

// P18.2: each kind of node, and the steps that it takes.
func TestNodes(t *testing.T) {
	hold(t, []row{
		{funs{`ret 1`}, "exited 0", 1},
		{funs{`ret 7`}, "exited 0", 1},
		{funs{`ret "text"`}, "exited 0", 1},
		{funs{`raise 1`}, "err uncaught exception ?; exited 1", 1},
		{funs{`let 0 = print "a"; let 0 = print "b"; ret 1`}, "ab; exited 0", 3},

		{funs{`if #1 { let 0 = print "t"; ret 1 } { let 0 = print "f"; ret 1 }`}, "t; exited 0", 3},
		{funs{`if #0 { let 0 = print "t"; ret 1 } { let 0 = print "f"; ret 1 }`}, "f; exited 0", 3},
		{funs{`if #2 { let 0 = print "t"; ret 1 } { let 0 = print "f"; ret 1 }`}, "t; exited 0", 3},
		{funs{`if #1073741823 { let 0 = print "t"; ret 1 } { let 0 = print "f"; ret 1 }`}, "t; exited 0", 3},
		{funs{`let 0 = lt 1 2; if v0 { let 0 = print "t"; ret 1 } { let 0 = print "f"; ret 1 }`}, "t; exited 0", 4},

		{funs{`tail f1`, `let 0 = print "a"; ret 1`}, "a; exited 0", 3},
		{funs{`tail f1 "a" "b"`, `2: let 2 = cat v1 v0; let 2 = print v2; ret 1`}, "ba; exited 0", 4},
		{funs{`tail f1`, `tail f2`, `tail f3`, `ret 1`}, "exited 0", 4},
		{funs{`let 0 = call f1; let 1 = print v0; ret 1`, `tail f2 "a"`, `1: ret v0`}, "a; exited 0", 5},

		{funs{`let 0 = closure f1 "c"; go v0 "a"`, `2: let 2 = capture 0 v0; let 2 = cat v2 v1; let 2 = print v2; ret 1`}, "ca; exited 0", 6},
		{funs{`let 0 = closure f1; let 1 = call f2 v0; let 1 = print v1; ret 1`, `2: ret v1`, `1: go v0 "a"`}, "a; exited 0", 6},

		{funs{`try { ret "a" } catch 0 { ret "b" } then 1; let 1 = print v1; ret 1`}, "a; exited 0", 4},
		{funs{`try { raise "a" } catch 0 { ret "b" } then 1; let 1 = print v1; ret 1`}, "b; exited 0", 5},
		{funs{`try { raise "a" } catch 0 { ret v0 } then 1; let 1 = print v1; ret 1`}, "a; exited 0", 5},
	})
}

// A switch goes by a number, by a tag, or by its last kid.
func TestSwitch(t *testing.T) {
	const rest = ` 0 { let 1 = print "a"; ret 1 } 7 { let 1 = print "b"; ret 1 } 1073741823 { let 1 = print "c"; ret 1 } { let 1 = print "else"; ret 1 }`
	hold(t, []row{
		{funs{`switch #0` + rest}, "a; exited 0", 3},
		{funs{`switch #7` + rest}, "b; exited 0", 3},
		{funs{`switch #1073741823` + rest}, "c; exited 0", 3},
		{funs{`switch #1` + rest}, "else; exited 0", 3},
		{funs{`let 0 = block 0; switch v0` + rest}, "a; exited 0", 4},
		{funs{`let 0 = block 7 1 2; switch v0` + rest}, "b; exited 0", 4},
		{funs{`let 0 = block 1073741823 1; switch v0` + rest}, "c; exited 0", 4},
		{funs{`let 0 = block 8 1; switch v0` + rest}, "else; exited 0", 4},
		{funs{`switch #5 { let 1 = print "else"; ret 1 }`}, "else; exited 0", 3},
		{funs{`let 0 = block 5; switch v0 { let 1 = print "else"; ret 1 }`}, "else; exited 0", 4},
		{funs{`switch #3 9 { ret 1 } 3 { let 1 = print "a"; ret 1 } 1 { ret 1 } { ret 1 }`}, "a; exited 0", 3},
	})
	many := api.Flow{Kind: api.FlowSwitch, A: api.Atom{Kind: api.AtomSmall, V: 500}}
	for i := range 1000 {
		many.Tags = append(many.Tags, 999-i)
		many.Kids = append(many.Kids, let(0, api.Op{Kind: api.OpPrim, Name: "print", Args: atoms{{Kind: api.AtomText, Text: strconv.Itoa(999 - i)}}}, ret(whole(1))))
	}
	many.Kids = append(many.Kids, ret(whole(1)))
	holdSteps(t, one(1, many), "a switch of many", "500; exited 0", 3)
}

// P18.2: each kind of operation.
func TestOps(t *testing.T) {
	hold(t, []row{
		{funs{`let 0 = atom "a"; let 1 = print v0; ret 1`}, "a; exited 0", 3},
		{funs{`let 0 = call f1 "a"; let 1 = print v0; ret 1`, `1: let 1 = cat v0 "b"; ret v1`}, "ab; exited 0", 5},
		{funs{`let 0 = call f1; let 1 = print v0; ret 1`, `let 0 = print "a"; ret "b"`}, "ab; exited 0", 5},
		{funs{`let 0 = closure f1; let 0 = apply v0 "a"; let 1 = print v0; ret 1`, `2: let 2 = cat v1 "b"; ret v2`}, "ab; exited 0", 6},
		{funs{`let 0 = block 3 "a" "b" "c"; let 1 = field 0 v0; let 2 = field 2 v0; let 1 = cat v1 v2; let 1 = print v1; ret 1`}, "ac; exited 0", 6},
		{funs{`let 0 = closure f1 "a" "b"; let 1 = capture 1 v0; let 1 = print v1; let 1 = capture 0 v0; let 1 = print v1; ret 1`, `2: ret 1`}, "ba; exited 0", 6},
		{funs{`let 0 = closure f1 "a" "b"; let 1 = patch 1 v0 "c"; let 2 = block 0; let 3 = eq v1 v2; if v3 { let 1 = capture 1 v0; let 1 = print v1; let 1 = capture 0 v0; let 1 = print v1; ret 1 } { ret 1 }`, `2: ret 1`}, "ca; exited 0", 11},
		{funs{`let 0 = substring "abcd" 1 2; let 1 = print v0; ret 1`}, "bc; exited 0", 3},
	})
	// as many arguments, fields, captured values as there may be
	var all atoms
	for i := range api.MaxArity {
		all = append(all, api.Atom{Kind: api.AtomText, Text: strconv.Itoa(i)})
	}
	print := func(v int) api.Flow {
		return let(1, api.Op{Kind: api.OpPrim, Name: "print", Args: atoms{local(v)}}, ret(whole(1)))
	}
	for kind, take := range map[int]int{api.OpBlock: api.OpField, api.OpClosure: api.OpCapture} {
		for _, n := range []int{0, 500, api.MaxArity - 1} {
			p := program(t, `ret 1`, `2: ret 1`)
			p.Funs[0] = api.Func{Locals: 2, Body: let(0, api.Op{Kind: kind, F: 1, Args: all}, let(1, api.Op{Kind: take, N: n, Args: atoms{local(0)}}, print(1)))}
			holdSteps(t, p, "many", strconv.Itoa(n)+"; exited 0", 4)
		}
	}
	p := program(t, `ret 1`)
	p.Funs = append(p.Funs, api.Func{Params: api.MaxArity, Locals: api.MaxArity + 5, Body: print(api.MaxArity - 1)})
	p.Funs[0] = api.Func{Locals: 1, Body: let(0, api.Op{Kind: api.OpCall, F: 1, Args: all}, tail(1, all))}
	holdSteps(t, p, "many parameters", "10231023; exited 0", 6)
}

// P18.2: each kind of atom.
func TestAtoms(t *testing.T) {
	hold(t, []row{
		{funs{`let 0 = itext ~123456789012345678901234567890; let 0 = print v0; ret 1`}, "~123456789012345678901234567890; exited 0", 3},
		{funs{`let 0 = itext 0; let 0 = print v0; ret 1`}, "0; exited 0", 3},
		{funs{`let 0 = ord #1073741823; let 0 = itext v0; let 0 = print v0; ret 1`}, "1073741823; exited 0", 4},
		{funs{`let 0 = ord #0; let 0 = itext v0; let 0 = print v0; ret 1`}, "0; exited 0", 4},
		{funs{`let 0 = rbits %1.5; let 0 = itext v0; let 0 = print v0; ret 1`}, "4609434218613702656; exited 0", 4},
		{funs{`let 0 = print "abc"; ret 1`}, "abc; exited 0", 2},
		{funs{`let 0 = print ""; ret 1`}, "exited 0", 2},
	})
	for n, name := range strings.Fields("Match Bind Div Subscript Size Io Domain Chr") {
		exn := "!" + strconv.Itoa(n)
		hold(t, []row{
			{funs{`let 0 = get ` + exn + `; let 0 = print v0; ret 1`}, name + "; exited 0", 3},
			{funs{`let 0 = same ` + exn + ` ` + exn + `; if v0 { let 0 = print "same"; ret 1 } { ret 1 }`}, "same; exited 0", 4},
			{funs{`let 0 = block 0 ` + exn + ` #0; raise v0`}, "err uncaught exception " + name + "; exited 1", 2},
			{funs{`raise ` + exn}, "err uncaught exception ?; exited 1", 1},
		})
	}
	bytes := ""
	for i := range 256 {
		bytes += string([]byte{byte(i)})
	}
	p := programWith(t, map[string]api.Atom{"all": {Kind: api.AtomText, Text: bytes}}, `let 0 = print $all; ret 1`)
	holdSteps(t, p, "all bytes", bytes+"; exited 0", 6)
	for _, bits := range []uint64{0, 1, 1 << 63, 0x7FF0000000000000, 0xFFF0000000000000, 0x3FF0000000000001, math.MaxInt64} {
		p := programWith(t, map[string]api.Atom{"x": {Kind: api.AtomReal, Bits: bits}}, `let 0 = rbits $x; let 0 = itext v0; let 0 = print v0; ret 1`)
		want := strconv.FormatUint(bits, 10)
		if bits == math.MaxInt64 {
			want = "9221120237041090560" // what is no number
		}
		holdSteps(t, p, "a real", want+"; exited 0", 4)
	}
}

// Locals are set again and again, by lets and by tries, wherever these stand; a function's are its own, anew in each call.
func TestLocals(t *testing.T) {
	hold(t, []row{
		{funs{`let 0 = atom "a"; let 0 = cat v0 "b"; let 0 = cat v0 "c"; let 0 = print v0; ret 1`}, "abc; exited 0", 5},
		{funs{`let 199 = atom "a"; let 5 = atom "b"; let 0 = cat v199 v5; let 0 = print v0; ret 1`}, "ab; exited 0", 5},
		{funs{`tail f1 "a" "b"`, `2: let 0 = cat v1 v0; let 1 = cat v0 v1; let 1 = print v1; ret 1`}, "bab; exited 0", 5},
		// what is set in the kids of a try is set behind it
		{funs{`let 0 = atom "a"; try { let 0 = atom "b"; ret 1 } catch 1 { ret 1 } then 1; let 0 = print v0; ret 1`}, "b; exited 0", 6},
		{funs{`let 0 = atom "a"; try { let 0 = atom "b"; raise 1 } catch 1 { ret v0 } then 1; let 0 = cat v0 v1; let 0 = print v0; ret 1`}, "bb; exited 0", 8},
		{funs{`let 0 = atom "a"; try { let 0 = atom "b"; raise 1 } catch 1 { let 0 = atom "c"; ret 1 } then 1; let 0 = print v0; ret 1`}, "c; exited 0", 8},
		{funs{`let 0 = atom "a"; try { raise "b" } catch 0 { ret 1 } then 1; let 0 = print v0; ret 1`}, "b; exited 0", 6},
		{funs{`let 0 = atom "a"; try { ret "b" } catch 0 { ret 1 } then 1; let 0 = print v0; ret 1`}, "a; exited 0", 5},
		{funs{`let 0 = atom "a"; try { ret "b" } catch 1 { ret 1 } then 0; let 0 = print v0; ret 1`}, "b; exited 0", 5},
		{funs{`try { raise "a" } catch 0 { ret "b" } then 0; let 0 = print v0; ret 1`}, "b; exited 0", 5},
		{funs{`try { raise "a" } catch 0 { let 0 = cat v0 "b"; ret v0 } then 1; let 0 = print v1; ret 1`}, "ab; exited 0", 6},
		// what a try has set is set again in another one
		{funs{`try { ret "a" } catch 0 { ret "b" } then 5; try { let 5 = atom "c"; raise 1 } catch 0 { ret v5 } then 6; let 6 = cat v6 v5; let 6 = print v6; ret 1`}, "cc; exited 0", 11},
		{funs{`try { raise "a" } catch 0 { try { ret "b" } catch 1 { ret 1 } then 5; try { let 5 = atom "c"; raise 1 } catch 1 { ret v5 } then 6; let 6 = cat v6 v5; ret v6 } then 7; let 7 = print v7; ret 1`}, "cc; exited 0", 13},
		{funs{`try { try { ret "a" } catch 0 { ret "b" } then 5; try { let 5 = atom "c"; raise 1 } catch 0 { raise v5 } then 6; ret 1 } catch 0 { ret v0 } then 6; let 6 = print v6; ret 1`}, "c; exited 0", 11},
		// a call, a tail, a go has locals of its own
		{funs{`let 0 = atom "a"; let 1 = call f1; let 0 = print v0; ret 1`, `let 0 = atom "b"; ret v0`}, "a; exited 0", 6},
		{funs{`let 0 = atom "a"; try { tail f1 } catch 1 { ret 1 } then 1; let 0 = cat v0 v1; let 0 = print v0; ret 1`, `let 0 = atom "b"; let 1 = atom "c"; ret v0`}, "ab; exited 0", 9},
		{funs{`let 0 = atom "a"; let 2 = closure f1; try { go v2 "b" } catch 1 { ret v0 } then 1; let 0 = cat v0 v1; let 0 = print v0; ret 1`, `2: let 0 = atom "c"; raise v1`}, "aa; exited 0", 10},
		{funs{`let 0 = call f1 2; ret 1`, `1: let 1 = le v0 0; if v1 { ret "end" } { let 2 = sub v0 1; let 3 = call f1 v2; let 4 = itext v0; let 4 = print v4; ret v3 }`}, "12; exited 0", 19},
		{funs{`let 0 = call f1 4; let 0 = itext v0; let 0 = print v0; ret 1`, `1: let 1 = le v0 0; if v1 { ret 1 } { let 1 = sub v0 1; let 1 = call f1 v1; let 1 = mul v0 v1; ret v1 }`}, "24; exited 0", 31},
		{funs{`let 0 = call f1 7; let 0 = itext v0; let 0 = print v0; ret 1`, `1: let 1 = le v0 1; if v1 { ret v0 } { let 1 = sub v0 1; let 1 = call f1 v1; let 2 = sub v0 2; let 2 = call f1 v2; let 1 = add v1 v2; ret v1 }`}, "13; exited 0", 227},
	})
}

// What a try catches: all that its first kid raises, whatever goes on in its place; nothing else.
func TestTry(t *testing.T) {
	const show = `let 9 = print v9; ret 1`
	hold(t, []row{
		// in another function: a call, a tail, an application, a go
		{funs{`try { let 0 = call f1; ret "no" } catch 0 { ret v0 } then 9; ` + show, `raise "a"`}, "a; exited 0", 6},
		{funs{`try { tail f1 } catch 0 { ret v0 } then 9; ` + show, `raise "a"`}, "a; exited 0", 6},
		{funs{`try { tail f1 } catch 0 { ret "no" } then 9; ` + show, `ret "a"`}, "a; exited 0", 5},
		{funs{`try { tail f1 } catch 0 { ret v0 } then 9; ` + show, `tail f2`, `tail f3`, `raise "a"`}, "a; exited 0", 8},
		{funs{`let 1 = closure f1; try { let 0 = apply v1 "a"; ret "no" } catch 0 { ret v0 } then 9; ` + show, `2: raise v1`}, "a; exited 0", 7},
		{funs{`let 1 = closure f1; try { go v1 "a" } catch 0 { ret v0 } then 9; ` + show, `2: raise v1`}, "a; exited 0", 7},
		{funs{`let 1 = closure f1; try { go v1 "a" } catch 0 { ret "no" } then 9; ` + show, `2: ret v1`}, "a; exited 0", 6},
		// ifs and switches in a try
		{funs{`try { if #0 { ret "no" } { switch #3 3 { raise "a" } { ret "no" } } } catch 0 { ret v0 } then 9; ` + show}, "a; exited 0", 7},
		{funs{`try { if #1 { ret "a" } { raise "no" } } catch 0 { ret v0 } then 9; ` + show}, "a; exited 0", 5},
		// what the second kid does in the try's place
		{funs{`try { raise "a" } catch 0 { tail f1 v0 } then 9; ` + show, `1: ret v0`}, "a; exited 0", 6},
		{funs{`let 1 = closure f1; try { raise "a" } catch 0 { go v1 v0 } then 9; ` + show, `2: ret v1`}, "a; exited 0", 7},
		{funs{`try { raise "a" } catch 0 { let 1 = print v0; if #1 { ret "b" } { ret "c" } } then 9; ` + show}, "ab; exited 0", 7},
		{funs{`try { raise 1 } catch 0 { raise 2 } then 9; ` + show}, "err uncaught exception ?; exited 1", 3},
		{funs{`try { raise 1 } catch 0 { tail f1 } then 9; ` + show, `raise 2`}, "err uncaught exception ?; exited 1", 4},
		{funs{`try { ret 1 } catch 0 { ret "no" } then 9; raise v9`}, "err uncaught exception ?; exited 1", 3},
		{funs{`try { ret 1 } catch 0 { ret "no" } then 9; tail f1`, `raise 1`}, "err uncaught exception ?; exited 1", 4},
		// tries in one another
		{funs{`try { try { raise "a" } catch 0 { raise "b" } then 1; ret "no" } catch 0 { ret v0 } then 9; ` + show}, "b; exited 0", 7},
		{funs{`try { try { raise "a" } catch 0 { ret v0 } then 1; ret v1 } catch 0 { ret "no" } then 9; ` + show}, "a; exited 0", 7},
		{funs{`try { try { ret "a" } catch 0 { ret "no" } then 1; raise v1 } catch 0 { ret v0 } then 9; ` + show}, "a; exited 0", 7},
		{funs{`try { raise "a" } catch 0 { try { raise "b" } catch 1 { let 2 = cat v0 v1; ret v2 } then 1; ret v1 } then 9; ` + show}, "ab; exited 0", 9},
		{funs{`try { raise "a" } catch 0 { try { raise "b" } catch 0 { ret v0 } then 1; let 2 = cat v0 v1; ret v2 } then 9; ` + show}, "bb; exited 0", 9},
		{funs{`try { ret "a" } catch 0 { ret 1 } then 1; try { raise v1 } catch 0 { ret v0 } then 9; ` + show}, "a; exited 0", 7},
		{funs{`try { let 0 = call f1; ret "no" } catch 0 { ret v0 } then 9; ` + show, `try { raise "a" } catch 0 { ret v0 } then 1; raise v1`}, "a; exited 0", 9},
		{funs{`try { tail f1 } catch 0 { let 0 = cat v0 "c"; ret v0 } then 9; ` + show, `try { tail f2 } catch 0 { let 0 = cat v0 "b"; raise v0 } then 1; ret "no"`, `raise "a"`}, "abc; exited 0", 11},
		// what a primitive raises: the block of tag 0 with the cell and the small number 0
		{funs{`try { let 0 = mod 1 0; ret "no" } catch 0 { let 1 = block 0 !2 #0; let 2 = eq v0 v1; if v2 { ret "same" } { ret "no" } } then 9; ` + show}, "same; exited 0", 9},
		{funs{`try { let 0 = chr 256; ret "no" } catch 0 { let 1 = field 0 v0; let 2 = same v1 !7; if v2 { let 3 = get v1; ret v3 } { ret "no" } } then 9; ` + show}, "Chr; exited 0", 9},
		{funs{`try { let 0 = chr 256; ret "no" } catch 0 { switch v0 0 { let 1 = field 1 v0; if v1 { ret "no" } { ret "0" } } { ret "no" } } then 9; ` + show}, "0; exited 0", 8},
		// what ends a run is not raised
		{funs{`try { let 0 = exit 3; ret 1 } catch 0 { let 1 = print "no"; ret 1 } then 9; ` + show}, "exited 3", 2},
		{funs{`try { let 0 = add 1 "a"; ret 1 } catch 0 { let 1 = print "no"; ret 1 } then 9; ` + show}, "stuck", 2},
		{funs{`try { try { tail f1 } catch 0 { ret 1 } then 1; ret 1 } catch 0 { let 1 = print "no"; ret 1 } then 9; ret 1`, `let 0 = print "a"; let 0 = exit 7; ret 1`}, "a; exited 7", 5},
	})
	hold(t, []row{{funs{`try { tail f1 } catch 0 { let 1 = print "no"; ret 1 } then 2; ret 1`, `tail f1`}, "running", 0}})
}

// Closures are themselves; what they have captured is patched, and is another one's never.
func TestClosures(t *testing.T) {
	const show = `let 9 = print v9; ret 1`
	hold(t, []row{
		// one that knows itself
		{funs{`let 0 = closure f1 #0; let 1 = patch 0 v0 v0; let 2 = apply v0 3; ret 1`, `2: let 2 = le v1 0; if v2 { ret 1 } { let 3 = itext v1; let 3 = print v3; let 4 = capture 0 v0; let 5 = sub v1 1; go v4 v5 }`}, "321; exited 0", 28},
		// two that know each other
		{funs{`let 0 = closure f1 #0; let 1 = closure f2 v0; let 2 = patch 0 v0 v1; go v0 3`, `2: let 2 = print "a"; let 3 = le v1 0; if v3 { ret 1 } { let 4 = capture 0 v0; let 5 = sub v1 1; go v4 v5 }`, `2: let 2 = print "b"; let 3 = capture 0 v0; let 4 = sub v1 1; go v3 v4`}, "ababa; exited 0", 28},
		// two of one function are two
		{funs{`let 0 = closure f1 "a"; let 1 = closure f1 "a"; let 2 = patch 0 v0 "b"; let 9 = capture 0 v1; ` + show, `2: ret 1`}, "a; exited 0", 6},
		// another name of the same closure, in a block, a cell, a vector, another closure
		{funs{`let 0 = closure f1 "a"; let 1 = atom v0; let 2 = patch 0 v1 "b"; let 9 = capture 0 v0; ` + show, `2: ret 1`}, "b; exited 0", 6},
		{funs{`let 0 = closure f1 "a"; let 1 = block 0 v0; let 2 = patch 0 v0 "b"; let 3 = field 0 v1; let 9 = capture 0 v3; ` + show, `2: ret 1`}, "b; exited 0", 7},
		{funs{`let 0 = closure f1 "a"; let 1 = ref v0; let 2 = patch 0 v0 "b"; let 3 = get v1; let 9 = capture 0 v3; ` + show, `2: ret 1`}, "b; exited 0", 7},
		{funs{`let 0 = closure f1 "a"; let 1 = closure f1 v0; let 2 = patch 0 v0 "b"; let 3 = capture 0 v1; let 9 = capture 0 v3; ` + show, `2: ret 1`}, "b; exited 0", 7},
		// by the function itself
		{funs{`let 0 = closure f1 "a"; let 1 = apply v0 "b"; let 9 = apply v0 "c"; let 9 = capture 0 v0; ` + show, `2: let 2 = capture 0 v0; let 2 = cat v2 v1; let 3 = patch 0 v0 v2; ret v2`}, "abc; exited 0", 14},
		// again and again
		{funs{`let 0 = closure f1 1 2 3; let 1 = patch 2 v0 "a"; let 1 = patch 2 v0 "b"; let 1 = patch 0 v0 "c"; let 9 = capture 2 v0; ` + show, `2: ret 1`}, "b; exited 0", 7},
		// the captured value is what the local was
		{funs{`let 0 = atom "a"; let 1 = closure f1 v0; let 0 = atom "b"; let 9 = capture 0 v1; ` + show, `2: ret 1`}, "a; exited 0", 6},
		{funs{`let 0 = atom "a"; let 1 = block 0 v0; let 0 = atom "b"; let 9 = field 0 v1; ` + show}, "a; exited 0", 6},
		// the argument: the closure, and what it is applied to
		{funs{`let 0 = closure f1 "a"; let 1 = closure f1 "b"; let 2 = apply v0 v1; ret 1`, `2: let 2 = capture 0 v0; let 3 = capture 0 v1; let 2 = cat v2 v3; let 2 = print v2; ret 1`}, "ab; exited 0", 9},
	})
}

// What isn't caught: its name, as far as it has one, and the code.
func TestNotCaught(t *testing.T) {
	raised := func(name string, steps int, lets string) row {
		return row{funs{lets + ` raise v0`, `2: ret 1`}, "err uncaught exception " + name + "; exited 1", steps}
	}
	hold(t, []row{
		raised("Own", 3, `let 1 = ref "Own"; let 0 = block 0 v1 1;`),
		raised("", 3, `let 1 = ref ""; let 0 = block 9 v1 1;`),
		raised("One", 3, `let 1 = ref "One"; let 0 = block 9 v1;`),
		raised("Three", 3, `let 1 = ref "Three"; let 0 = block 1073741823 v1 1 2;`),
		raised("?", 3, `let 1 = ref 1; let 0 = block 0 v1 1;`),
		raised("?", 4, `let 2 = ref "Inner"; let 1 = ref v2; let 0 = block 0 v1 1;`),
		raised("?", 2, `let 0 = block 0 "Text" 1;`),
		raised("?", 2, `let 0 = block 0;`),
		raised("?", 3, `let 1 = ref "Second"; let 0 = block 0 1 v1;`),
		raised("?", 2, `let 0 = ref "Cell";`),
		raised("?", 2, `let 0 = atom "Text";`),
		raised("?", 2, `let 0 = atom #0;`),
		raised("?", 2, `let 0 = atom %0;`),
		raised("?", 2, `let 0 = atom 5;`),
		raised("?", 2, `let 0 = vector #0;`),
		raised("?", 2, `let 0 = bnew 0;`),
		raised("?", 3, `let 1 = ref "Captured"; let 0 = closure f1 v1 1;`),
		raised("Other", 4, `let 1 = set !2 "Other"; let 0 = block 0 !2 #0; let 1 = print "";`),
		{funs{`let 1 = set !2 "Other"; let 0 = div 1 0; ret 1`}, "err uncaught exception Other; exited 1", 2},
		{funs{`let 1 = set !2 7; let 0 = div 1 0; ret 1`}, "err uncaught exception ?; exited 1", 2},
		{funs{`let 1 = set !2 !3; let 0 = div 1 0; ret 1`}, "err uncaught exception ?; exited 1", 2},
		{funs{`let 0 = print "a"; let 0 = eprint "b"; let 0 = chr ~1; ret 1`}, "a; err buncaught exception Chr; exited 1", 3},
		{funs{`let 0 = call f1; ret 1`, `tail f2`, `let 0 = call f3; ret 1`, `raise 1`}, "err uncaught exception ?; exited 1", 4},
	})
}

// exit: the code is the integer modulo 256, and nothing goes on, wherever it stands.
func TestExit(t *testing.T) {
	for a, code := range map[string]string{"0": "0", "1": "1", "255": "255", "256": "0", "257": "1", "~1": "255", "~255": "1", "~256": "0", "~257": "255", "123456789012345678901234567890": "210", "~123456789012345678901234567890": "46", "18446744073709551616": "0"} {
		hold(t, []row{
			{funs{`let 0 = exit ` + a + `; let 0 = print "no"; ret 1`}, "exited " + code, 1},
			{funs{`let 0 = print "a"; let 0 = call f1; ret 1`, `try { tail f2 ` + a + ` } catch 0 { ret 1 } then 0; ret 1`, `1: let 1 = exit v0; ret 1`}, "a; exited " + code, 5},
		})
	}
}
