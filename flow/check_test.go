package flow_test

import (
	"fmt"
	"math"
	"reflect"
	"slices"
	"strconv"
	"strings"
	"testing"

	"smithy/api"
	"smithy/big"
	"smithy/flow"
)

type (
	kids  = []api.Flow
	atoms = []api.Atom
)

func whole(n int) api.Atom         { return api.Atom{Kind: api.AtomInt, Int: big.Of(int64(n))} }
func local(v int) api.Atom         { return api.Atom{Kind: api.AtomVar, V: v} }
func ret(a api.Atom) api.Flow      { return api.Flow{Kind: api.FlowRet, A: a} }
func tail(f int, l atoms) api.Flow { return api.Flow{Kind: api.FlowTail, F: f, Args: l} }

func let(v int, o api.Op, next api.Flow) api.Flow {
	return api.Flow{Kind: api.FlowLet, V: v, Op: o, Kids: kids{next}}
}

// of is an operation on so many integers.
func of(o api.Op, many int) api.Op {
	o.Args = slices.Repeat(atoms{whole(1)}, many)
	return o
}

// one is a program of one function, with so many locals.
func one(locals int, body api.Flow) api.Program {
	return api.Program{Funs: []api.Func{{Locals: locals, Body: body}}}
}

// does is a program that does an operation, beside functions with none to three parameters.
func does(o api.Op) api.Program { return begins(let(0, o, ret(whole(1)))) }

// begins is a program that begins with a node, beside functions with none to three parameters (1 to 4).
func begins(f api.Flow) api.Program {
	p := one(10, f)
	for params := range 4 {
		p.Funs = append(p.Funs, api.Func{Params: params, Locals: params, Body: ret(whole(params))})
	}
	return p
}

// holdMay holds whether a program may be: by Check, and by Run, also where there are too many steps.
func holdMay(t *testing.T, what string, p api.Program, may bool) {
	t.Helper()
	want, wrong := api.ErrFlow, api.ErrFlow
	if may {
		want, wrong = api.OK, api.ErrArg
	}
	if e := flow.Check(p); e != want {
		t.Errorf("%s: Check is %v, not %v", what, e, want)
	}
	out, e := flow.Run(p, smallWorld(), 30)
	if e != want || !may && !reflect.DeepEqual(out, api.Outcome{}) {
		t.Errorf("%s: Run is %+v, %v", what, out, e)
	}
	if out, e := flow.Run(p, smallWorld(), -1); e != wrong || !reflect.DeepEqual(out, api.Outcome{}) {
		t.Errorf("%s: Run is %+v, %v", what, out, e)
	}
	if thrown, is := flow.Thrown(p, smallWorld(), 30); !is {
		t.Errorf("%s: throws %v", what, thrown)
	}
}

// P10.1: there is a function 0, without parameters.
func TestBeginningMay(t *testing.T) {
	holdMay(t, "no functions", api.Program{}, false)
	holdMay(t, "an empty list of functions", api.Program{Funs: []api.Func{}}, false)
	holdMay(t, "a function", program(t, `ret 1`), true)
	holdMay(t, "a parameter", program(t, `1: ret 1`), false)
	holdMay(t, "a parameter of another one", program(t, `ret 1`, `1: ret v0`), true)
	holdMay(t, "a parameter of the first", program(t, `1: ret 1`, `ret 1`), false)
	holdMay(t, "the zero function", api.Program{Funs: []api.Func{{}}}, false)
	holdMay(t, "a zero function", api.Program{Funs: []api.Func{{Body: ret(whole(1))}, {}}}, false)
	for params, may := range map[int]bool{-1: false, 0: true, 1: false, math.MinInt: false} {
		holdMay(t, "so many parameters: "+strconv.Itoa(params), api.Program{Funs: []api.Func{{Params: params, Locals: 5, Body: ret(whole(1))}}}, may)
	}
}

// P10.1: parameters and locals at their limits.
func TestLocalsMay(t *testing.T) {
	for _, r := range []struct {
		params, locals int
		may            bool
	}{
		{0, 0, true}, {0, 1, true}, {1, 1, true}, {1, 0, false}, {0, -1, false}, {-1, -1, false}, {-1, 0, false}, {-1, 5, false}, {5, 4, false}, {5, 5, true}, {5, -5, false},
		{api.MaxArity, api.MaxArity, true}, {api.MaxArity, api.MaxArity - 1, false}, {api.MaxArity + 1, api.MaxArity + 1, false}, {api.MaxArity + 1, api.MaxCode, false},
		{0, api.MaxCode, true}, {0, api.MaxCode + 1, false}, {api.MaxArity, api.MaxCode, true}, {api.MaxArity, api.MaxCode + 1, false}, {math.MaxInt, math.MaxInt, false}, {0, math.MaxInt, false}, {math.MinInt, math.MaxInt, false}, {math.MinInt, math.MinInt, false},
	} {
		f := api.Func{Params: r.params, Locals: r.locals, Body: ret(whole(1))}
		first, second := api.Func{Body: ret(whole(1))}, api.Func{Params: 1, Locals: 3, Body: ret(local(0))}
		what := fmt.Sprint(r.params, " parameters, ", r.locals, " locals")
		holdMay(t, what, api.Program{Funs: []api.Func{first, f}}, r.may)
		holdMay(t, what, api.Program{Funs: []api.Func{first, second, f, second}}, r.may)
		if r.params == 0 {
			holdMay(t, what, api.Program{Funs: []api.Func{f, second}}, r.may)
		}
	}
	// what is set is below Locals, whether it is read or not
	try := func(v, w int) api.Flow {
		return api.Flow{Kind: api.FlowTry, V: v, W: w, Kids: kids{ret(whole(1)), ret(whole(2)), ret(whole(3))}}
	}
	atom := of(api.Op{Kind: api.OpAtom}, 1)
	for _, locals := range []int{0, 1, 7, api.MaxCode} {
		for _, v := range []int{math.MinInt, -1, 0, locals - 1, locals, locals + 1, math.MaxInt} {
			what, may := fmt.Sprint("the local ", v, " of ", locals), v >= 0 && v < locals
			holdMay(t, what+" in a let", one(locals, let(v, atom, ret(whole(1)))), may)
			holdMay(t, what+" in a try", one(locals, try(v, 0)), may)
			holdMay(t, what+" behind a try", one(locals, try(0, v)), may)
			holdMay(t, what+" in a let that is read", one(locals, let(v, atom, ret(local(v)))), may)
			holdMay(t, what+" that is not set", one(locals, ret(local(v))), false)
			p := api.Program{Funs: []api.Func{{Locals: api.MaxCode, Body: ret(whole(1))}, {Locals: locals, Body: let(v, atom, ret(local(v)))}}}
			holdMay(t, what+" of a function behind a greater one", p, may)
		}
	}
	for params, body := range map[int]api.Flow{0: ret(local(0)), 1: ret(local(1)), 3: ret(local(3))} {
		holdMay(t, "a local behind the parameters", api.Program{Funs: []api.Func{{Body: ret(whole(1))}, {Params: params, Locals: 9, Body: body}}}, false)
		body.A.V--
		holdMay(t, "the last parameter", api.Program{Funs: []api.Func{{Body: ret(whole(1))}, {Params: params, Locals: 9, Body: body}}}, params > 0)
	}
}

// P10.1: each local that is read has been set on the way to it.
func TestSetMay(t *testing.T) {
	for _, text := range []string{
		`let 0 = atom 1; ret v0`, `let 0 = atom 1; let 0 = atom v0; ret v0`, `let 3 = atom 1; let 0 = atom v3; ret v0`, `let 0 = atom 1; if #1 { ret v0 } { raise v0 }`, `let 0 = atom 1; switch #1 2 { ret v0 } 3 { ret v0 } { ret v0 }`, `let 0 = atom 1; switch v0 { ret v0 }`,
		`if #1 { let 0 = atom 1; ret v0 } { let 0 = atom 2; ret v0 }`, `let 0 = atom 1; try { ret v0 } catch 1 { ret v0 } then 2; ret v0`,
		`try { ret 1 } catch 0 { ret v0 } then 1; ret v1`, `try { ret 1 } catch 0 { ret v0 } then 0; ret v0`, `try { let 5 = atom 1; ret v5 } catch 0 { let 5 = atom 2; ret v5 } then 1; let 5 = atom 3; ret v5`,
		`let 0 = atom 1; try { let 0 = atom 2; ret v0 } catch 0 { ret v0 } then 1; ret v0`, `let 0 = atom 1; try { ret v0 } catch 1 { ret v0 } then 1; ret v0`, `let 0 = atom 1; tail f1 v0`, `let 0 = atom 1; go v0 v0`, `let 0 = atom 1; let 1 = call f1 v0; let 2 = apply v0 v1; let 3 = block 1 v0 v1 v2; let 4 = field 1 v3; let 5 = closure f2 v0 v4; let 6 = capture 0 v5; let 7 = patch 0 v5 v6; let 8 = eq v6 v7; ret v8`,
		`try { try { ret 1 } catch 1 { ret v1 } then 2; ret v2 } catch 3 { ret v3 } then 4; ret v4`, `try { ret 1 } catch 0 { try { ret v0 } catch 1 { raise v0 } then 2; ret v0 } then 3; ret v3`,
	} {
		holdMay(t, text, program(t, text, `1: ret v0`, `2: ret v1`), true)
	}
	for _, text := range []string{
		`ret v0`, `raise v0`, `if v0 { ret 1 } { ret 1 }`, `switch v0 { ret 1 }`, `tail f1 v0`, `go v0 1`, `go 1 v0`, `let 0 = atom v0; ret 1`, `let 0 = neg v0; ret 1`, `let 0 = call f1 v0; ret 1`, `let 0 = apply v0 1; ret 1`, `let 0 = apply 1 v0; ret 1`, `let 0 = block 1 1 v0; ret 1`, `let 0 = field 0 v0; ret 1`, `let 0 = closure f2 v0; ret 1`, `let 0 = capture 0 v0; ret 1`, `let 0 = patch 0 v0 1; ret 1`, `let 0 = patch 0 1 v0; ret 1`, `let 0 = substring 1 1 v0; ret 1`,
		`let 0 = atom 1; ret v1`, `let 1 = atom 1; ret v0`, `if #1 { let 0 = atom 1; ret v0 } { ret v0 }`, `if #1 { ret v0 } { let 0 = atom 1; ret v0 }`, `switch #1 0 { let 0 = atom 1; ret v0 } 1 { ret v0 } { ret 1 }`, `switch #1 0 { let 0 = atom 1; ret v0 } { ret v0 }`,
		`try { let 0 = atom 1; ret v0 } catch 1 { ret 1 } then 2; ret v0`, `try { ret 1 } catch 1 { let 0 = atom 1; ret v0 } then 2; ret v0`, `try { let 0 = atom 1; ret v0 } catch 1 { let 0 = atom 1; ret v0 } then 2; ret v0`, `try { let 0 = atom 1; ret v0 } catch 1 { ret v0 } then 2; ret 1`,
		`try { ret v0 } catch 0 { ret 1 } then 1; ret 1`, `try { ret v1 } catch 0 { ret 1 } then 1; ret 1`, `try { ret 1 } catch 0 { ret v1 } then 1; ret 1`, `try { ret 1 } catch 0 { ret 1 } then 1; ret v0`, `try { raise 1 } catch 0 { ret 1 } then 1; ret v0`,
		`try { ret 1 } catch 0 { ret 1 } then 1; if #1 { ret v1 } { ret v0 }`, `try { try { ret 1 } catch 1 { ret 1 } then 2; ret v2 } catch 3 { ret v2 } then 4; ret 1`, `try { try { ret 1 } catch 1 { ret 1 } then 2; ret v2 } catch 3 { ret v3 } then 4; ret v2`, `try { ret 1 } catch 0 { try { ret v0 } catch 1 { raise v0 } then 2; ret v0 } then 3; ret v0`,
	} {
		holdMay(t, text, program(t, text, `1: ret v0`, `2: ret v1`), false)
		set := `let 0 = atom 1; let 1 = atom 1; let 2 = atom 1; let 3 = atom 1; ` + text
		holdMay(t, set, program(t, set, `1: ret v0`, `2: ret v1`), true)
	}
	holdMay(t, "another function's local", program(t, `let 0 = atom 1; tail f1`, `ret v0`), false)
	holdMay(t, "what a function ahead has set", program(t, `let 0 = atom 1; ret v0`, `let 1 = atom 1; ret v0`), false)
	holdMay(t, "parameters are set", program(t, `ret 1`, `3: let 1 = atom v2; if v0 { ret v1 } { ret v2 }`), true)
}

// P10.1: a kind of the table, with as many kids as it says.
func TestKidsMay(t *testing.T) {
	first := map[int]api.Flow{
		api.FlowRet: {A: whole(1)}, api.FlowLet: {Op: of(api.Op{Kind: api.OpAtom}, 1)}, api.FlowIf: {A: whole(1)}, api.FlowSwitch: {A: whole(1), Tags: []int{7, 5, 6}}, api.FlowTail: {F: 1}, api.FlowGo: {A: whole(1), Args: atoms{whole(1)}}, api.FlowRaise: {A: whole(1)}, api.FlowTry: {W: 1},
	}
	many := map[int]int{api.FlowLet: 1, api.FlowIf: 2, api.FlowSwitch: 4, api.FlowTry: 3}
	for kind := -2; kind < 20; kind++ {
		f, is := first[kind]
		f.Kind = kind
		for n := range 7 {
			f.Kids = slices.Repeat(kids{ret(whole(1))}, n)
			what, may := fmt.Sprint("kind ", kind, " with ", n), is && n == many[kind]
			holdMay(t, what, begins(f), may)
			holdMay(t, what+" in a let", begins(let(0, of(api.Op{Kind: api.OpAtom}, 1), f)), may)
			for i := range 3 {
				try := api.Flow{Kind: api.FlowTry, Kids: slices.Repeat(kids{ret(whole(1))}, 3)}
				try.Kids[i] = f
				holdMay(t, what+" in a try", begins(try), may)
			}
			p := begins(ret(whole(1)))
			p.Funs[4].Body = f
			holdMay(t, what+" in the last function", p, may)
		}
		for n := range 4 {
			f.Tags, f.Kids = []int{7, 5, 6}[:n], slices.Repeat(kids{ret(whole(1))}, n+1)
			if kind == api.FlowSwitch {
				holdMay(t, "a switch of "+strconv.Itoa(n), begins(f), true)
			}
			f.Kids = f.Kids[1:]
			holdMay(t, "kids less than tags", begins(f), is && kind != api.FlowSwitch && n == many[kind])
		}
	}
}

// P10.1: Tags are unlike, and 0 to 2^30 - 1.
func TestTagsMay(t *testing.T) {
	for _, r := range []struct {
		tags []int
		may  bool
	}{
		{nil, true}, {[]int{5}, true}, {[]int{5, 4, 6}, true}, {[]int{5, 5}, false}, {[]int{5, 4, 5}, false}, {[]int{0, 1, 2, 3, 2}, false}, {[]int{0, 0}, false}, {[]int{-1}, false}, {[]int{0, -1}, false}, {[]int{1<<30 - 1}, true}, {[]int{1 << 30}, false}, {[]int{3, 1 << 30, 4}, false}, {[]int{3, 1<<30 - 1, 0}, true}, {[]int{math.MinInt}, false}, {[]int{math.MaxInt, 0}, false}, {[]int{1 << 32}, false},
	} {
		f := api.Flow{Kind: api.FlowSwitch, A: whole(1), Tags: r.tags, Kids: slices.Repeat(kids{ret(whole(1))}, len(r.tags)+1)}
		holdMay(t, fmt.Sprint("tags ", r.tags), begins(f), r.may)
	}
	others := kids{ret(whole(1)), {Kind: api.FlowTail, F: 1}, {Kind: api.FlowIf, A: whole(1), Kids: kids{ret(whole(1)), ret(whole(1))}}}
	for _, f := range others {
		f.Tags = []int{-1, -1} // tags of no switch
		holdMay(t, "tags of no switch", begins(f), true)
	}
}

type atomRow struct {
	what string
	a    api.Atom
	may  bool
}

// atomsMay are atoms, and whether they may be where the locals 0 and 1 of 10 are set.
func atomsMay() []atomRow {
	var out []atomRow
	bad := api.Int{Neg: true}
	for kind := -2; kind < 12; kind++ {
		out = append(out, atomRow{fmt.Sprint("an atom of kind ", kind), api.Atom{Kind: kind}, kind >= 1 && kind <= 6})
	}
	for v, may := range map[int]bool{math.MinInt: false, -1: false, 0: true, 1: true, 2: false, 9: false, 10: false, math.MaxInt: false} {
		out = append(out, atomRow{fmt.Sprint("local ", v), api.Atom{Kind: api.AtomVar, V: v, Int: bad, Text: longer}, may})
	}
	for n, may := range map[int]bool{math.MinInt: false, -1: false, 0: true, 1: true, 1<<30 - 1: true, 1 << 30: false, 1<<30 + 1: false, 1 << 32: false, math.MaxInt: false} {
		out = append(out, atomRow{fmt.Sprint("small ", n), api.Atom{Kind: api.AtomSmall, V: n, Int: bad, Text: longer}, may})
	}
	for n, may := range map[int]bool{math.MinInt: false, -1: false, 0: true, 7: true, 8: false, 1 << 32: false, math.MaxInt: false} {
		out = append(out, atomRow{fmt.Sprint("exception ", n), api.Atom{Kind: api.AtomExn, V: n, Int: bad, Text: longer}, may})
	}
	for n, may := range map[int]bool{0: true, 1: true, api.MaxString: true, api.MaxString + 1: false} {
		out = append(out, atomRow{fmt.Sprint("a text of ", n), api.Atom{Kind: api.AtomText, Text: strings.Repeat("\xff", n), V: -1, Int: bad}, may})
	}
	for _, bits := range []uint64{0, 1, 1 << 63, math.MaxUint64, 0x7FF0000000000001} {
		out = append(out, atomRow{fmt.Sprintf("real %x", bits), api.Atom{Kind: api.AtomReal, Bits: bits, V: -1, Int: bad, Text: longer}, true})
	}
	for _, r := range []struct {
		a   api.Int
		may bool
	}{
		{api.Int{}, true}, {api.Int{Mag: []uint32{}}, true}, {api.Int{Mag: []uint32{1}}, true}, {api.Int{Neg: true, Mag: []uint32{0, 1}}, true}, {api.Int{Mag: slices.Repeat([]uint32{1}, 5000)}, true},
		{bad, false}, {api.Int{Mag: []uint32{0}}, false}, {api.Int{Neg: true, Mag: []uint32{0}}, false}, {api.Int{Mag: []uint32{1, 0}}, false}, {api.Int{Neg: true, Mag: []uint32{1, 2, 0}}, false},
	} {
		out = append(out, atomRow{fmt.Sprintf("integer %v", r.a), api.Atom{Kind: api.AtomInt, Int: r.a, V: -1, Text: longer}, r.may})
	}
	return out
}

// P10.1: atoms of no kind, integers, small numbers, texts, exceptions, locals, wherever an atom stands that is looked at.
func TestAtomsMay(t *testing.T) {
	two := kids{ret(whole(1)), ret(whole(2))}
	for _, r := range atomsMay() {
		a, w := r.a, whole(1)
		ops := map[string]api.Op{
			"an atom": {Kind: api.OpAtom, Args: atoms{a}}, "a primitive": {Kind: api.OpPrim, Name: "neg", Args: atoms{a}}, "a primitive's first": {Kind: api.OpPrim, Name: "substring", Args: atoms{a, w, w}}, "a primitive's last": {Kind: api.OpPrim, Name: "substring", Args: atoms{w, w, a}}, "a call": {Kind: api.OpCall, F: 3, Args: atoms{w, a}}, "an application's first": {Kind: api.OpApply, Args: atoms{a, w}}, "an application's second": {Kind: api.OpApply, Args: atoms{w, a}},
			"a block": {Kind: api.OpBlock, Args: atoms{w, w, a}}, "a field": {Kind: api.OpField, Args: atoms{a}}, "a closure": {Kind: api.OpClosure, F: 3, Args: atoms{w, a, w}}, "a capture": {Kind: api.OpCapture, Args: atoms{a}}, "a patch's first": {Kind: api.OpPatch, Args: atoms{a, w}}, "a patch's second": {Kind: api.OpPatch, Args: atoms{w, a}},
		}
		nodes := map[string]api.Flow{
			"a ret": ret(a), "a raise": {Kind: api.FlowRaise, A: a}, "an if": {Kind: api.FlowIf, A: a, Kids: two}, "a switch": {Kind: api.FlowSwitch, A: a, Tags: []int{4}, Kids: two}, "a tail": tail(3, atoms{w, a}), "a go": {Kind: api.FlowGo, A: a, Args: atoms{w}}, "a go's argument": {Kind: api.FlowGo, A: w, Args: atoms{a}},
		}
		for what, o := range ops {
			nodes[what] = let(2, o, ret(w))
		}
		for what, f := range nodes {
			set := let(0, of(api.Op{Kind: api.OpAtom}, 1), let(1, of(api.Op{Kind: api.OpAtom}, 1), f))
			holdMay(t, r.what+" in "+what, begins(set), r.may)
		}
		// what a node doesn't look at may be anything
		others := kids{
			{Kind: api.FlowRet, A: w, Args: atoms{a}, Op: api.Op{Args: atoms{a}}, V: -1, W: -1, F: -1}, {Kind: api.FlowTail, A: a, F: 1, Op: api.Op{Kind: 99}}, {Kind: api.FlowIf, A: w, Args: atoms{a}, Kids: two, V: 99, F: 99}, {Kind: api.FlowLet, A: a, Args: atoms{a}, Op: api.Op{Kind: api.OpAtom, Args: atoms{w}, N: -1, F: -1, Name: "none"}, W: -1, F: -1, Kids: two[:1]},
			{Kind: api.FlowTry, A: a, Args: atoms{a}, Op: api.Op{Args: atoms{a}}, F: -1, Kids: kids{ret(w), ret(w), ret(w)}}, {Kind: api.FlowRaise, A: w, Args: atoms{a}, Op: api.Op{Args: atoms{a}}, V: -1},
		}
		for _, f := range others {
			holdMay(t, r.what+" where none is looked at", begins(f), true)
		}
	}
}

// P10.1: operations that are none, with too few and too many arguments; their N and F.
func TestOpsMay(t *testing.T) {
	many := map[int]int{api.OpAtom: 1, api.OpPrim: 3, api.OpCall: 2, api.OpApply: 2, api.OpField: 1, api.OpCapture: 1, api.OpPatch: 2}
	for kind := -2; kind < 20; kind++ {
		for n := range 6 {
			o := of(api.Op{Kind: kind, Name: "substring", F: 3}, n) // the function 3 has two parameters
			holdMay(t, fmt.Sprint("operation ", kind, " of ", n), does(o), many[kind] > 0 && many[kind] == n || kind == api.OpBlock || kind == api.OpClosure)
		}
	}
	for n, may := range map[int]bool{0: true, api.MaxArity: true, api.MaxArity + 1: false, 5000: false} {
		holdMay(t, fmt.Sprint("a block of ", n), does(of(api.Op{Kind: api.OpBlock}, n)), may)
		holdMay(t, fmt.Sprint("a closure of ", n), does(of(api.Op{Kind: api.OpClosure, F: 3}, n)), may)
	}
	for n, may := range map[int]bool{math.MinInt: false, -1: false, 0: true, 1: true, api.MaxArity - 1: true, api.MaxArity: false, 1 << 29: false, 1 << 32: false, math.MaxInt: false} {
		for _, kind := range []int{api.OpField, api.OpCapture, api.OpPatch} {
			holdMay(t, fmt.Sprint("N of operation ", kind, ": ", n), does(of(api.Op{Kind: kind, N: n}, many[kind])), may)
		}
		for _, kind := range []int{api.OpAtom, api.OpCall, api.OpApply, api.OpPrim, api.OpClosure} {
			holdMay(t, fmt.Sprint("N of another operation ", kind, ": ", n), does(of(api.Op{Kind: kind, Name: "substring", F: 3, N: n}, max(many[kind], 1))), true)
		}
	}
	for n, may := range map[int]bool{math.MinInt: false, -1: false, 0: true, 1<<30 - 1: true, 1 << 30: false, 1 << 32: false, math.MaxInt: false} {
		holdMay(t, fmt.Sprint("tag ", n), does(of(api.Op{Kind: api.OpBlock, N: n}, 2)), may)
	}
}

// P10.1: calls of functions that are not there, with too few and too many arguments; closures of functions with two parameters.
func TestCallsMay(t *testing.T) {
	for f := -2; f < 9; f++ {
		params, is := map[int]int{0: 0, 1: 0, 2: 1, 3: 2, 4: 3}[f], f >= 0 && f < 5
		for n := range 6 {
			what := fmt.Sprint("function ", f, " of ", n)
			holdMay(t, "call "+what, does(of(api.Op{Kind: api.OpCall, F: f}, n)), is && params == n)
			holdMay(t, "tail "+what, begins(tail(f, slices.Repeat(atoms{whole(1)}, n))), is && params == n)
			holdMay(t, "closure "+what, does(of(api.Op{Kind: api.OpClosure, F: f}, n)), f == 3)
			holdMay(t, "a go with F "+what, begins(api.Flow{Kind: api.FlowGo, F: f, A: whole(1), Args: slices.Repeat(atoms{whole(1)}, n)}), n == 1)
			holdMay(t, "apply with F "+what, does(of(api.Op{Kind: api.OpApply, F: f}, n)), n == 2)
		}
	}
	for _, f := range []int{math.MinInt, math.MaxInt, 1 << 32} {
		holdMay(t, "a call", does(of(api.Op{Kind: api.OpCall, F: f}, 0)), false)
		holdMay(t, "a closure", does(of(api.Op{Kind: api.OpClosure, F: f}, 0)), false)
		holdMay(t, "a tail", begins(tail(f, nil)), false)
	}
	most := api.Program{Funs: []api.Func{{Locals: 1}, {Params: api.MaxArity, Locals: api.MaxArity, Body: ret(local(api.MaxArity - 1))}}}
	for n, may := range map[int]bool{0: false, api.MaxArity - 1: false, api.MaxArity: true, api.MaxArity + 1: false} {
		most.Funs[0].Body = let(0, of(api.Op{Kind: api.OpCall, F: 1}, n), ret(local(0)))
		holdMay(t, fmt.Sprint("a call of ", n), most, may)
		most.Funs[0].Body = tail(1, slices.Repeat(atoms{whole(1)}, n))
		holdMay(t, fmt.Sprint("a tail of ", n), most, may)
	}
	holdMay(t, "the beginning is called", program(t, `let 0 = call f0; tail f0`), true)
	holdMay(t, "a function behind", program(t, `tail f2 1`, `1: tail f1 v0`, `1: tail f1 v0`), true)
}

// P10.1: primitives that are none, and with another number of arguments.
func TestPrimitivesMay(t *testing.T) {
	all := arities()
	for _, none := range []string{"", "Add", "add ", " add", "concat", "f", "if", "\x00", "rsqrt", "prin", "printx"} {
		all[none] = -1
	}
	for name, many := range all {
		for n := range 6 {
			holdMay(t, fmt.Sprintf("%q of %d", name, n), does(of(api.Op{Kind: api.OpPrim, Name: name}, n)), n == many)
		}
	}
}

// lets are so many lets ahead of a node.
func lets(many int, f api.Flow) api.Flow {
	for range many {
		f = let(0, of(api.Op{Kind: api.OpAtom}, 1), f)
	}
	return f
}

// P10.1: how deep nodes are nested. What is too deep may stand anywhere.
func TestDepthMay(t *testing.T) {
	end := ret(whole(1))
	for deep, may := range map[int]bool{api.MaxTerm - 1: true, api.MaxTerm: true, api.MaxTerm + 1: false, api.MaxTerm + 5: false, 100000: false, api.MaxCode + 5: false} {
		what := fmt.Sprint(deep, " deep")
		holdMay(t, "lets "+what, one(1, lets(deep-1, end)), may)
		p := begins(ret(whole(1)))
		p.Funs = append(p.Funs, api.Func{Locals: 1, Body: lets(deep-1, end)})
		holdMay(t, "another function "+what, p, may)
		inner := lets(deep-2, end)
		for i := range 3 {
			three := kids{end, end, end}
			three[i] = inner
			holdMay(t, fmt.Sprint("kid ", i, " of a try ", what), one(2, api.Flow{Kind: api.FlowTry, V: 0, W: 1, Kids: three}), may)
			holdMay(t, fmt.Sprint("kid ", i, " of a switch ", what), one(1, api.Flow{Kind: api.FlowSwitch, A: whole(1), Tags: []int{4, 5}, Kids: three}), may)
			if i < 2 {
				holdMay(t, fmt.Sprint("kid ", i, " of an if ", what), one(1, api.Flow{Kind: api.FlowIf, A: whole(1), Kids: three[:2]}), may)
			}
		}
		tries := end
		for range deep - 1 {
			tries = api.Flow{Kind: api.FlowTry, V: 0, W: 1, Kids: kids{tries, end, end}}
		}
		if deep < 50000 {
			holdMay(t, "tries "+what, one(2, tries), may)
		}
		holdMay(t, "two functions", api.Program{Funs: []api.Func{{Locals: 1, Body: lets(api.MaxTerm-1, end)}, {Locals: 1, Body: lets(deep-1, end)}}}, may)
	}
}

// P10.1: functions and nodes together are at most MaxCode.
func TestSizeMay(t *testing.T) {
	end := ret(whole(1))
	for _, many := range []int{api.MaxCode - 1, api.MaxCode, api.MaxCode + 1, api.MaxCode + 2, 2 * api.MaxCode, 5 * api.MaxCode} {
		may := many <= api.MaxCode
		one := func(kids kids) api.Program { // a function and a switch are two
			f := api.Flow{Kind: api.FlowSwitch, A: whole(1), Kids: kids}
			for i := range len(kids) - 1 {
				f.Tags = append(f.Tags, len(kids)-i)
			}
			return one(3, f)
		}
		holdMay(t, fmt.Sprint("a switch, together ", many), one(slices.Repeat(kids{end}, many-2)), may)
		three := api.Flow{Kind: api.FlowTry, W: 1, Kids: kids{end, end, end}} // four nodes
		holdMay(t, fmt.Sprint("tries, together ", many), one(append(slices.Repeat(kids{three}, (many-2)/4), slices.Repeat(kids{end}, (many-2)%4)...)), may)
		funs := slices.Repeat([]api.Func{{Body: end}}, many/2)
		if many%2 == 1 {
			funs[len(funs)-1] = api.Func{Locals: 1, Body: lets(1, end)}
		}
		holdMay(t, fmt.Sprint("functions, together ", many), api.Program{Funs: funs}, may)
		funs = slices.Repeat([]api.Func{{Locals: 1, Body: lets(7, end)}}, many/9)
		funs = append(funs, slices.Repeat([]api.Func{{Locals: 1, Body: end}}, many%9/2)...)
		if many%9%2 == 1 {
			funs[0].Body = lets(8, end)
		}
		holdMay(t, fmt.Sprint("functions and nodes, together ", many), api.Program{Funs: funs}, may)
	}
	// each function has 9,000 nodes, and the last one is too much
	funs := slices.Repeat([]api.Func{{Locals: 1, Body: lets(9000-2, end)}}, 22) // 198,000
	holdMay(t, "long functions", api.Program{Funs: append(slices.Clone(funs), api.Func{Locals: 1, Body: lets(1998, end)})}, true)
	holdMay(t, "long functions and one node more", api.Program{Funs: append(slices.Clone(funs), api.Func{Locals: 1, Body: lets(1999, end)})}, false)
	holdMay(t, "a function too much", api.Program{Funs: append(slices.Clone(funs), api.Func{Locals: 1, Body: lets(1998, end)}, api.Func{Body: end})}, false)
}
