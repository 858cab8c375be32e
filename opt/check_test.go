package opt_test

import (
	"math"
	"math/rand"
	"reflect"
	"slices"
	"strconv"
	"strings"
	"testing"

	"smithy/api"
	"smithy/big"
	"smithy/flow"
	"smithy/opt"
)

// ints is an operation on so many integers.
func ints(o api.Op, many int) api.Op {
	o.Args = slices.Repeat(atoms{whole(1)}, many)
	return o
}

func atomOp(a api.Atom) api.Op { return api.Op{Kind: api.OpAtom, Args: atoms{a}} }

// wrong are bodies that may not be, in each of the ways of P10.1, in a function without parameters that has ten locals, beside
// functions 1 to 4 with none to three.
func wrong() map[string]api.Flow {
	all := map[string]api.Flow{
		"no kind": {}, "a kind that there is not": {Kind: 99, A: whole(1)}, "a kind below 0": {Kind: -1, A: whole(1)}, "too deep": nested(api.MaxTerm + 1),
		"kids of a ret": {Kind: api.FlowRet, A: whole(1), Kids: kids{ret(whole(1))}}, "kids of a raise": {Kind: api.FlowRaise, A: whole(1), Kids: kids{ret(whole(1))}}, "a let without a kid": {Kind: api.FlowLet, Op: atomOp(whole(1))}, "two kids of a let": {Kind: api.FlowLet, Op: atomOp(whole(1)), Kids: kids{ret(whole(1)), ret(whole(1))}}, "one kid of an if": {Kind: api.FlowIf, A: small(1), Kids: kids{ret(whole(1))}}, "kids of a tail": {Kind: api.FlowTail, F: 1, Kids: kids{ret(whole(1))}}, "kids of a go": {Kind: api.FlowGo, A: whole(1), Args: atoms{whole(1)}, Kids: kids{ret(whole(1))}}, "two kids of a try": {Kind: api.FlowTry, Kids: kids{ret(whole(1)), ret(whole(1))}}, "four kids of a try": {Kind: api.FlowTry, Kids: slices.Repeat(kids{ret(whole(1))}, 4)}, "too few kids of a switch": {Kind: api.FlowSwitch, A: small(1), Tags: []int{1}, Kids: kids{ret(whole(1))}}, "no kid of a switch": {Kind: api.FlowSwitch, A: small(1)},
		"a tag below 0": {Kind: api.FlowSwitch, A: small(1), Tags: []int{-1}, Kids: kids{ret(whole(1)), ret(whole(1))}}, "a tag that is too great": {Kind: api.FlowSwitch, A: small(1), Tags: []int{1 << 30}, Kids: kids{ret(whole(1)), ret(whole(1))}}, "two equal tags": {Kind: api.FlowSwitch, A: small(1), Tags: []int{5, 6, 5}, Kids: slices.Repeat(kids{ret(whole(1))}, 4)},
		"a local that is set and is none": let(10, atomOp(whole(1)), ret(whole(1))), "one below 0": let(-1, atomOp(whole(1)), ret(whole(1))), "a try's": {Kind: api.FlowTry, V: 10, Kids: slices.Repeat(kids{ret(whole(1))}, 3)}, "another one of a try": {Kind: api.FlowTry, W: -1, Kids: slices.Repeat(kids{ret(whole(1))}, 3)},
		"a tail without a function": tail(5, nil), "a tail below 0": tail(-1, nil), "a tail with too few arguments": tail(3, atoms{whole(1)}), "a tail with too many": tail(1, atoms{whole(1)}), "a go without an argument": {Kind: api.FlowGo, A: whole(1)}, "a go with two": {Kind: api.FlowGo, A: whole(1), Args: atoms{whole(1), whole(1)}},
	}
	for name, o := range wrongOps() {
		all[name] = let(0, o, ret(whole(1)))
	}
	for name, a := range wrongAtoms() {
		all[name] = ret(a)
		all[name+" in a raise"] = api.Flow{Kind: api.FlowRaise, A: a}
		all[name+" in an if"] = api.Flow{Kind: api.FlowIf, A: a, Kids: kids{ret(whole(1)), ret(whole(1))}}
		all[name+" in a switch"] = api.Flow{Kind: api.FlowSwitch, A: a, Kids: kids{ret(whole(1))}}
		all[name+" in a tail"] = tail(2, atoms{a})
		all[name+" in a go"] = api.Flow{Kind: api.FlowGo, A: whole(1), Args: atoms{a}}
		all[name+" in a let"] = let(0, atomOp(a), ret(whole(1)))
		all[name+" in a block"] = let(0, api.Op{Kind: api.OpBlock, Args: atoms{whole(1), a}}, ret(whole(1)))
		all[name+" below an if"] = api.Flow{Kind: api.FlowIf, A: small(1), Kids: kids{ret(whole(1)), ret(a)}}
		all[name+" in a handler"] = api.Flow{Kind: api.FlowTry, W: 1, Kids: kids{ret(whole(1)), ret(a), ret(whole(1))}}
	}
	return all
}

func wrongOps() map[string]api.Op {
	return map[string]api.Op{
		"no operation": {}, "an operation that there is not": ints(api.Op{Kind: 77}, 1), "no atom": {Kind: api.OpAtom}, "two atoms": ints(api.Op{Kind: api.OpAtom}, 2), "no primitive": ints(api.Op{Kind: api.OpPrim, Name: "sqrt"}, 1), "a primitive without a name": ints(api.Op{Kind: api.OpPrim}, 1), "a primitive with too few arguments": ints(api.Op{Kind: api.OpPrim, Name: "add"}, 1), "one with too many": ints(api.Op{Kind: api.OpPrim, Name: "neg"}, 2),
		"a call of none": ints(api.Op{Kind: api.OpCall, F: 5}, 0), "a call below 0": ints(api.Op{Kind: api.OpCall, F: -1}, 0), "a call with too few arguments": ints(api.Op{Kind: api.OpCall, F: 3}, 1), "one argument of an apply": ints(api.Op{Kind: api.OpApply}, 1), "three of it": ints(api.Op{Kind: api.OpApply}, 3), "too many fields": ints(api.Op{Kind: api.OpBlock}, api.MaxArity+1), "a block's tag below 0": ints(api.Op{Kind: api.OpBlock, N: -1}, 1), "one that is too great": ints(api.Op{Kind: api.OpBlock, N: 1 << 30}, 1),
		"a field below 0": ints(api.Op{Kind: api.OpField, N: -1}, 1), "a field that is too far": ints(api.Op{Kind: api.OpField, N: api.MaxArity}, 1), "a field of two": ints(api.Op{Kind: api.OpField}, 2), "a closure of none": ints(api.Op{Kind: api.OpClosure, F: 9}, 1), "a closure of one parameter": ints(api.Op{Kind: api.OpClosure, F: 2}, 1), "a closure of three": ints(api.Op{Kind: api.OpClosure, F: 4}, 1), "too many captured": ints(api.Op{Kind: api.OpClosure, F: 3}, api.MaxArity+1), "a captured value that is too far": ints(api.Op{Kind: api.OpCapture, N: api.MaxArity}, 1), "one of nothing": ints(api.Op{Kind: api.OpCapture}, 0), "a patch that is too far": ints(api.Op{Kind: api.OpPatch, N: api.MaxArity}, 2), "a patch of one": ints(api.Op{Kind: api.OpPatch}, 1),
	}
}

func wrongAtoms() map[string]api.Atom {
	return map[string]api.Atom{
		"no atom's kind": {}, "an atom's kind that there is not": {Kind: 9}, "a local that was not set": local(3), "a local that is none": local(10), "a local below 0": local(-1), "an integer with a nought": {Kind: api.AtomInt, Int: api.Int{Mag: []uint32{1, 0}}}, "a 0 below 0": {Kind: api.AtomInt, Int: api.Int{Neg: true}}, "a small number below 0": small(-1), "a small number that is too great": small(1 << 30), "a text that is too long": {Kind: api.AtomText, Text: strings.Repeat("a", api.MaxString+1)}, "an exception below 0": {Kind: api.AtomExn, V: -1}, "an exception that there is not": {Kind: api.AtomExn, V: 8},
	}
}

// nested is a body that is so deep.
func nested(deep int) api.Flow {
	f := ret(whole(1))
	for range deep - 1 {
		f = let(0, atomOp(whole(1)), f)
	}
	return f
}

// beside is a program that begins with a body, and has functions 1 to 4 with none to three parameters beside it.
func beside(f api.Flow) api.Program {
	p := one(10, f)
	for params := range 4 {
		p.Funs = append(p.Funs, api.Func{Params: params, Locals: params, Body: ret(whole(params))})
	}
	return p
}

// P12.1: ErrFlow for each way in which a program may not be, where it begins, and in functions that nothing reaches.
func TestRefused(t *testing.T) {
	for name, f := range wrong() {
		refused(t, name, beside(f))
		p := beside(ret(whole(1)))
		p.Funs = append(p.Funs, api.Func{Locals: 10, Body: f})
		if name != "a tail without a function" && name != "a call of none" {
			refused(t, name+" where nothing reaches it", p)
		}
		p = beside(api.Flow{Kind: api.FlowIf, A: small(1), Kids: kids{ret(whole(1)), f}})
		refused(t, name+" where it is never done", p)
	}
	for name, f := range map[string]api.Func{
		"parameters below 0": {Params: -1, Locals: 5}, "too many parameters": {Params: api.MaxArity + 1, Locals: api.MaxArity + 1}, "fewer locals than parameters": {Params: 3, Locals: 2}, "too many locals": {Locals: api.MaxCode + 1}, "locals below 0": {Locals: -1}, "far too many": {Locals: math.MaxInt}, "parameters far below 0": {Params: math.MinInt},
	} {
		f.Body = ret(whole(1))
		p := beside(ret(whole(1)))
		p.Funs = append(p.Funs, f)
		refused(t, name, p)
		p.Funs[0] = f
		refused(t, name+" of the first", p)
	}
	refused(t, "a parameter of the first", program(t, `1: ret v0`))
	for text, may := range map[string]bool{
		`try { let 0 = atom 1; ret v0 } catch 1 { ret 1 } then 2; ret v0`: false, `try { ret 1 } catch 0 { ret v0 } then 1; ret v0`: false, `try { ret v1 } catch 0 { ret v0 } then 1; ret v1`: false, `try { ret 1 } catch 0 { ret v1 } then 1; ret v1`: false, `if #1 { let 0 = atom 1; ret v0 } { ret v0 }`: false, `let 0 = atom v0; ret v0`: false, `try { ret 1 } catch 0 { ret v0 } then 1; ret v1`: true, `let 0 = atom 1; try { let 0 = atom 1; ret v0 } catch 1 { ret v0 } then 2; ret v0`: true,
	} {
		if p := program(t, text); may {
			made(t, p)
		} else {
			refused(t, text, p)
		}
	}
}

// P12.1: just those programs are refused that may not be: programs at random, with something changed in them.
func TestChanged(t *testing.T) {
	t.Parallel()
	var verdicts [2]int
	m := &maker{Rand: rand.New(rand.NewSource(4))}
	for i := range 6000 {
		m.wrong = []int{0, 30}[i%2]
		p := copied(m.program())
		for range 1 + m.Intn(3) {
			m.change(reflect.ValueOf(&p).Elem())
		}
		q, e := opt.Opt(p)
		if e != flow.Check(p) {
			t.Fatalf("%v\n%s", e, shown(p))
		}
		if e != api.OK {
			verdicts[0]++
			if !reflect.DeepEqual(q, api.Program{}) {
				t.Fatalf("a program beside %v", e)
			}
			continue
		}
		verdicts[1]++
		alike(t, p, made(t, p), worlds()[0], 30, 60, 1000)
	}
	t.Log(verdicts)
	if slices.Min(verdicts[:]) < 1000 {
		t.Error(verdicts)
	}
}

// copied is a program that shares nothing with another.
func copied(p api.Program) api.Program {
	return deepCopy(reflect.ValueOf(p)).Interface().(api.Program)
}

func deepCopy(x reflect.Value) reflect.Value {
	out := reflect.New(x.Type()).Elem()
	out.Set(x)
	switch x.Kind() {
	case reflect.Slice:
		if !x.IsNil() {
			out.Set(reflect.MakeSlice(x.Type(), x.Len(), x.Len()))
		}
		for i := range x.Len() {
			out.Index(i).Set(deepCopy(x.Index(i)))
		}
	case reflect.Struct:
		for i := range x.NumField() {
			out.Field(i).Set(deepCopy(x.Field(i)))
		}
	}
	return out
}

// change writes something else into some part of a program.
func (m *maker) change(x reflect.Value) {
	switch x.Kind() {
	case reflect.Slice:
		switch {
		case x.Len() == 0:
			if m.Intn(3) == 0 {
				x.Set(reflect.MakeSlice(x.Type(), 1, 1))
			}
		case m.Intn(25) == 0:
			x.Set(x.Slice(1, x.Len()))
		case m.Intn(25) == 0:
			x.Set(reflect.AppendSlice(reflect.MakeSlice(x.Type(), 0, 1), x))
			x.Set(reflect.Append(x, x.Index(m.Intn(x.Len()))))
		case m.Intn(25) == 0:
			x.Index(m.Intn(x.Len())).Set(x.Index(m.Intn(x.Len())))
		default:
			m.change(x.Index(m.Intn(x.Len())))
		}
	case reflect.Struct:
		for range 4 { // most fields are empty ones
			if f := x.Field(m.Intn(x.NumField())); (f.Kind() == reflect.Slice || f.Kind() == reflect.Struct) && !f.IsZero() || m.Intn(8) == 0 {
				m.change(f)
				return
			}
		}
	case reflect.Int:
		x.SetInt(int64(m.Intn(14) - 1))
	case reflect.Bool:
		x.SetBool(!x.Bool())
	case reflect.Uint32:
		x.SetUint(uint64(m.Intn(2)))
	case reflect.String:
		x.SetString(m.one("", "add", "print", "substring", "neg", "exit", "eq"))
	}
}

// R1: programs whose nodes hold themselves, or share their parts without end, are refused; what is shared and not too great is not.
func TestRings(t *testing.T) {
	for kind := range 12 {
		for many := 1; many < 4; many++ {
			row := make(kids, many)
			for i := range row {
				row[i] = api.Flow{Kind: kind, A: whole(1), Args: atoms{whole(1)}, Op: atomOp(whole(1)), Tags: []int{1, 2}[:many-1], Kids: row}
			}
			if p := one(5, row[0]); flow.Check(p) != api.OK {
				refused(t, strconv.Itoa(many)+" of kind "+strconv.Itoa(kind), p)
			} else {
				t.Errorf("%d of kind %d may be", many, kind)
			}
		}
	}
	both := ret(whole(1))
	for range 100 {
		both = api.Flow{Kind: api.FlowIf, A: whole(1), Kids: kids{both, both}}
	}
	refused(t, "shared nodes", one(0, both))
	both = let(0, api.Op{Kind: api.OpPrim, Name: "print", Args: atoms{{Kind: api.AtomText, Text: "a"}}}, ret(whole(1)))
	for range 14 {
		both = let(1, api.Op{Kind: api.OpPrim, Name: "ref", Args: atoms{small(1)}}, let(1, api.Op{Kind: api.OpPrim, Name: "get", Args: atoms{local(1)}}, api.Flow{Kind: api.FlowIf, A: local(1), Kids: kids{both, both}}))
	}
	p := one(2, both)
	alike(t, p, made(t, p), worlds()[0], 60, 100)
}

// R1: arguments of any form.
func TestOdd(t *testing.T) {
	may := 0
	for _, n := range []int{math.MinInt, -1, 0, 1, 7, 1 << 30, math.MaxInt} {
		for kind := -1; kind < 12; kind++ {
			a := api.Atom{Kind: kind, V: n, Int: api.Int{Neg: true, Mag: []uint32{0}}, Bits: math.MaxUint64}
			o := api.Op{Kind: kind, Name: "x", F: n, N: n, Args: atoms{a, a}}
			for _, l := range []kids{nil, {}, {{}}, {{Kind: kind, V: n}, {Kind: kind}}, {ret(a), ret(a), ret(a)}} {
				f := api.Flow{Kind: kind, V: n, W: n, F: n, A: a, Args: atoms{a}, Op: o, Tags: []int{n, n}, Kids: l}
				for _, p := range []api.Program{{Funs: []api.Func{{Params: n, Locals: n, Body: f}}}, {Funs: []api.Func{{Locals: 5, Body: f}, {Params: n, Locals: 9}}}, one(n, f)} {
					q, e := opt.Opt(p)
					if e != flow.Check(p) || e != api.OK && !reflect.DeepEqual(q, api.Program{}) {
						t.Errorf("%+v: %v", p, e)
					}
					if e == api.OK {
						may++
						made(t, q)
					}
				}
			}
		}
	}
	if may < 5 {
		t.Error(may)
	}
	// fields that a node has no use for hold anything
	full := api.Flow{V: -7, W: -9, F: 99, A: api.Atom{Kind: 5, V: -3, Text: "x"}, Args: atoms{{Kind: 77}}, Op: api.Op{Kind: 99, Name: "no", F: -5, N: -4, Args: atoms{{Kind: -1}}}, Tags: []int{-1, -1}}
	f := full
	f.Kind, f.A = api.FlowRet, api.Atom{Kind: api.AtomVar, V: 0, Int: api.Int{Neg: true, Mag: []uint32{0, 0}}, Text: "x", Bits: 7}
	g := full
	g.Kind, g.V, g.Kids = api.FlowLet, 0, kids{f}
	g.Op = api.Op{Kind: api.OpPrim, Name: "add", F: -7, N: -8, Args: atoms{{Kind: api.AtomInt, V: -9, Int: big.Of(1), Text: "t"}, {Kind: api.AtomInt, V: 5, Int: big.Of(2), Bits: 3}}}
	p := one(1, g)
	p.Funs[0].Name = "name"
	holdOne(t, p, "")
	if q := made(t, p); !reflect.DeepEqual(q, made(t, one(1, let(0, api.Op{Kind: api.OpPrim, Name: "add", Args: atoms{whole(1), whole(2)}}, ret(local(0)))))) {
		t.Errorf("%+v", q)
	}
}
