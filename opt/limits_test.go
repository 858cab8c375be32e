package opt_test

import (
	"reflect"
	"slices"
	"strconv"
	"strings"
	"testing"

	"smithy/api"
	"smithy/flow"
)

func prims(name string, l ...api.Atom) api.Op {
	return api.Op{Kind: api.OpPrim, Name: name, Args: l}
}

func says(s string) api.Op { return prims("print", word(s)) }

func word(s string) api.Atom { return api.Atom{Kind: api.AtomText, Text: s} }

func call(f int, l ...api.Atom) api.Op { return api.Op{Kind: api.OpCall, F: f, Args: l} }

func choose(a api.Atom, yes, no api.Flow) api.Flow {
	return api.Flow{Kind: api.FlowIf, A: a, Kids: kids{yes, no}}
}

func try(first api.Flow, v int, second api.Flow, w int, third api.Flow) api.Flow {
	return api.Flow{Kind: api.FlowTry, V: v, W: w, Kids: kids{first, second, third}}
}

func raise(a api.Atom) api.Flow { return api.Flow{Kind: api.FlowRaise, A: a} }

// hidden sets a local to a value that is not known, ahead of a node.
func hidden(v int, a api.Atom, next api.Flow) api.Flow {
	return let(v, prims("ref", a), let(v, prims("get", local(v)), next))
}

// lets is a node behind so many lets of an operation.
func lets(many, v int, o api.Op, next api.Flow) api.Flow {
	for range many {
		next = let(v, o, next)
	}
	return next
}

// bush is a body of many nodes that is not deep: conditions that are not known, with so many leaves.
func bush(leaves int, leaf api.Flow) api.Flow {
	if leaves <= 1 {
		return leaf
	}
	return let(2, prims("get", local(0)), choose(local(2), bush(leaves/2, leaf), bush(leaves-leaves/2, leaf)))
}

// great holds a program that may be, and is as great as may be, against what is made of it: once and again, with some numbers of
// steps; and that it may not be greater.
func great(t *testing.T, what string, p, more api.Program) {
	t.Helper()
	if e := flow.Check(p); e != api.OK {
		t.Fatalf("%s: %v", what, e)
	}
	if more.Funs != nil {
		refused(t, what+", and one more", more)
	}
	q := made(t, p)
	r := made(t, q)
	for _, fuel := range []int{0, 1, 2, 3, 10, 1000, api.MaxFuel} {
		a := runIn(t, p, worlds()[0], fuel)
		for _, b := range []api.Outcome{runIn(t, q, worlds()[0], fuel), runIn(t, r, worlds()[0], fuel)} {
			if !areAlike(a, b) || !isBeginning(a.Trace, b.Trace) || a.Status != api.Running && b.Status == api.Running {
				t.Fatalf("%s, %d steps: %.200s, not %.200s", what, fuel, told(b), told(a))
			}
		}
	}
	if size(q) > 2*size(p)+200 {
		t.Errorf("%s: %d nodes and functions come of %d", what, size(q), size(p))
	}
	t.Logf("%s: %d nodes and functions of %d are left", what, size(q), size(p))
}

// filled is a program to which functions that are reached are added, till it has so many nodes and functions.
func filled(p api.Program, many int) api.Program {
	p.Funs = slices.Clone(p.Funs)
	first := p.Funs[0].Body
	left := many - size(p)
	for left >= 4 {
		n := min(left-2, 9000)
		if left-2-n == 1 || left-2-n == 2 || left-2-n == 3 {
			n -= 4
		}
		first = let(0, call(len(p.Funs)), first)
		p.Funs = append(p.Funs, api.Func{Locals: 1, Body: lets(n-1, 0, says("f"), ret(local(0)))})
		left -= n + 2
	}
	p.Funs[0].Body = first
	p.Funs[0].Locals = max(p.Funs[0].Locals, 1)
	return p
}

// P12.1: no error for just MaxCode functions and nodes, however they are shared out.
func TestManyNodes(t *testing.T) {
	t.Parallel()
	const many = api.MaxCode
	chain := func(functions int, body func(next int) api.Flow) api.Program {
		var p api.Program
		for i := range functions {
			f := api.Func{Locals: 2, Body: body(i + 1)}
			if i+1 == functions {
				f.Body = ret(whole(1))
			}
			p.Funs = append(p.Funs, f)
		}
		return p
	}
	tails := func(next int) api.Flow { return tail(next, nil) }
	great(t, "a chain of tails", chain(many/2, tails), chain(many/2+1, tails))
	calls := func(next int) api.Flow { return let(0, call(next), let(1, says("a"), ret(local(0)))) }
	great(t, "a chain of calls", chain(many/4, calls), chain(many/4+2, calls))
	great(t, "half of it", chain(many/8, calls), api.Program{})
	ring := chain(many/4, calls)
	ring.Funs[len(ring.Funs)-1].Body = tail(0, nil)
	great(t, "a ring of calls", ring, api.Program{})
	none := chain(many/2, func(int) api.Flow { return ret(whole(1)) })
	great(t, "functions that nothing reaches", none, api.Program{Funs: append(slices.Clone(none.Funs), none.Funs[0])})
	wide := func(n int) api.Program {
		return one(3, hidden(0, small(1), let(0, prims("ref", local(0)), bush(n, let(1, says("a"), ret(local(1)))))))
	}
	great(t, "a bush", wide(many/4-1), wide(many/4))
	exact := filled(one(3, hidden(0, small(1), bush(1000, ret(whole(1))))), many)
	if size(exact) != many {
		t.Errorf("%d nodes", size(exact))
	}
	exact.Funs[0].Body = hidden(0, small(1), let(0, prims("ref", local(0)), bush(10, ret(whole(1)))))
	exact = filled(exact, many)
	great(t, "just as many as may be", exact, api.Program{Funs: append(slices.Clone(exact.Funs), none.Funs[0])})
	pick := api.Flow{Kind: api.FlowSwitch, A: local(0)}
	for i := range 90000 {
		pick.Tags, pick.Kids = append(pick.Tags, i), append(pick.Kids, let(1, says("a"), ret(local(0))))
	}
	pick.Kids = append(pick.Kids, ret(local(0)))
	great(t, "a switch", one(3, hidden(0, small(5), pick)), api.Program{})
	great(t, "a switch in a function", api.Program{Funs: []api.Func{{Body: tail(1, atoms{small(7)})}, {Params: 1, Locals: 2, Body: pick}}}, api.Program{})
}

// P12.1: no error for what is just MaxTerm deep, in each way.
func TestDeep(t *testing.T) {
	t.Parallel()
	const deep = api.MaxTerm
	ways := map[string]func(f api.Flow) api.Flow{
		"lets that nothing needs": func(f api.Flow) api.Flow { return let(1, atomOp(whole(1)), f) }, "lets": func(f api.Flow) api.Flow { return let(1, says("a"), f) }, "one of two": func(f api.Flow) api.Flow { return choose(local(0), f, ret(whole(1))) }, "the other one": func(f api.Flow) api.Flow { return choose(local(0), ret(whole(1)), f) }, "a switch": func(f api.Flow) api.Flow {
			return api.Flow{Kind: api.FlowSwitch, A: local(0), Tags: []int{7}, Kids: kids{f, ret(whole(1))}}
		},
		"a try": func(f api.Flow) api.Flow { return try(f, 1, ret(whole(1)), 1, ret(whole(1))) }, "a try that raises again": func(f api.Flow) api.Flow { return try(f, 1, raise(local(1)), 1, ret(local(1))) }, "a handler": func(f api.Flow) api.Flow { return try(raise(whole(1)), 1, f, 1, ret(local(1))) }, "a handler of a call": func(f api.Flow) api.Flow { return try(tail(1, nil), 1, f, 1, ret(local(1))) }, "behind a try": func(f api.Flow) api.Flow { return try(tail(2, nil), 1, ret(whole(1)), 1, f) }, "behind one that raises again": func(f api.Flow) api.Flow { return try(tail(2, nil), 1, raise(local(1)), 1, f) },
		"behind a call": func(f api.Flow) api.Flow { return let(1, call(2), f) }, "behind a longer one": func(f api.Flow) api.Flow { return let(1, call(3), f) }, "an unsteady local": func(f api.Flow) api.Flow {
			return try(let(3, says("a"), ret(local(3))), 3, ret(local(3)), 1, f)
		},
	}
	for name, way := range ways {
		build := func(many int) api.Program {
			f := let(1, says("end"), ret(whole(1)))
			for range many - 6 {
				f = way(f)
			}
			first := let(3, atomOp(whole(0)), let(5, says("begin"), hidden(0, small(7), f)))
			return api.Program{Funs: []api.Func{{Locals: 6, Body: first}, {Body: raise(whole(1))}, {Body: ret(whole(1))}, {Locals: 1, Body: lets(6, 0, says("c"), ret(whole(1)))}}}
		}
		great(t, name, build(deep), build(deep+1))
		mixed := build(deep / 2)
		great(t, name+", half as deep", mixed, api.Program{})
	}
}

// P12.1: what would become greater, or deeper, than may be, if it were laid in its calls' places, or behind a try.
func TestTooGreatToLay(t *testing.T) {
	t.Parallel()
	// many calls of a short function
	short := api.Func{Params: 1, Locals: 2, Body: let(1, says("a"), let(1, says("b"), let(1, prims("add", local(0), whole(1)), let(1, says("c"), ret(local(1))))))}
	f := ret(whole(1))
	for range 9990 {
		f = let(0, call(1, whole(1)), f)
	}
	great(t, "calls below each other", api.Program{Funs: []api.Func{{Locals: 1, Body: f}, short}}, api.Program{})
	side := api.Program{Funs: []api.Func{{Locals: 3, Body: hidden(0, small(1), let(0, prims("ref", local(0)), bush(39000, let(0, call(1, whole(1)), ret(local(0))))))}, short}}
	great(t, "calls beside each other", side, api.Program{})
	less := api.Program{Funs: []api.Func{{Locals: 3, Body: hidden(0, small(1), let(0, prims("ref", local(0)), bush(9000, let(0, call(1, whole(1)), ret(local(0))))))}, {Params: 1, Locals: 2, Body: lets(7, 1, says("s"), ret(local(0)))}}}
	great(t, "fewer of them", less, api.Program{})
	applied := api.Func{Params: 2, Locals: 3, Body: lets(3000, 2, says("x"), ret(local(1)))}
	both := api.Program{Funs: []api.Func{{Locals: 4, Body: let(0, api.Op{Kind: api.OpClosure, F: 1, Args: atoms{whole(1)}}, hidden(1, local(0), let(2, call(1, local(0), local(1)), let(3, api.Op{Kind: api.OpApply, Args: atoms{local(1), local(2)}}, ret(local(3))))))}, applied}}
	great(t, "a great function that is called once, and applied", both, api.Program{})
	if n := size(made(t, both)); n > size(both) {
		t.Errorf("%d nodes and functions come of %d", n, size(both))
	}
	// functions that are as deep as may be, called once, at the end and ahead of something
	long := api.Func{Locals: 1, Body: lets(api.MaxTerm-1, 0, says("x"), ret(local(0)))}
	great(t, "a deep function in the place of a deep one", api.Program{Funs: []api.Func{{Locals: 1, Body: lets(api.MaxTerm-1, 0, says("y"), tail(1, nil))}, long}}, api.Program{})
	great(t, "a deep function ahead of something deep", api.Program{Funs: []api.Func{{Locals: 1, Body: let(0, call(1), lets(api.MaxTerm-2, 0, says("y"), ret(local(0))))}, long}}, api.Program{})
	for _, n := range []int{4998, 4999, 5000, 5001, 5002} {
		half := api.Func{Locals: 1, Body: lets(n-1, 0, says("x"), ret(local(0)))}
		great(t, "a function of half the depth, "+strconv.Itoa(n), api.Program{Funs: []api.Func{{Locals: 1, Body: lets(5000, 0, says("y"), tail(1, nil))}, half}}, api.Program{})
		great(t, "one ahead of something, "+strconv.Itoa(n), api.Program{Funs: []api.Func{{Locals: 1, Body: let(0, call(1), lets(5000, 0, says("y"), ret(local(0))))}, half}}, api.Program{})
		again := raise(local(1))
		great(t, "a try of half the depth, "+strconv.Itoa(n), one(2, try(lets(n-1, 0, says("x"), ret(whole(1))), 1, again, 1, lets(5000, 0, says("y"), ret(local(1))))), api.Program{})
		great(t, "one below something, "+strconv.Itoa(n), one(2, lets(3000, 0, says("z"), try(lets(n/2-1, 0, says("x"), ret(whole(1))), 1, again, 1, lets(4500, 0, says("y"), ret(local(1)))))), api.Program{})
	}
	// functions that are called once, each greater than what there is room for
	var chain api.Program
	for i := range 9 {
		f := hidden(0, small(1), let(0, prims("ref", local(0)), bush(5000, tail(i+1, nil))))
		if i == 8 {
			f = ret(whole(1))
		}
		chain.Funs = append(chain.Funs, api.Func{Locals: 3, Body: f})
	}
	great(t, "great functions", chain, api.Program{})
	once := chain
	once.Funs = slices.Clone(chain.Funs)
	for i := range 8 {
		once.Funs[i].Body = hidden(0, small(1), let(0, prims("ref", local(0)), let(1, call(i+1), bush(5500, ret(local(1))))))
	}
	great(t, "great functions that are called once", once, api.Program{})
	// what is behind a try, laid behind each way through it
	ways := choose(local(0), choose(local(0), ret(whole(1)), ret(whole(2))), choose(local(0), ret(whole(3)), ret(whole(4))))
	g := ret(whole(1))
	for range 9000 {
		g = try(ways, 1, raise(local(1)), 1, g)
	}
	great(t, "tries with several ways", one(2, hidden(0, small(1), g)), api.Program{})
	h := ways
	for range 2000 {
		h = try(h, 1, raise(local(1)), 1, let(1, says("t"), ret(local(1))))
	}
	great(t, "tries in one another with several ways", one(2, hidden(0, small(1), h)), api.Program{})
}

// P12.1: MaxArity parameters, fields and captured values; MaxCode locals.
func TestManyParts(t *testing.T) {
	all := make(atoms, api.MaxArity)
	for i := range all {
		all[i] = word(strconv.Itoa(i))
	}
	turned := make(atoms, api.MaxArity)
	for i := range turned {
		turned[i] = local((i + 1) % len(turned))
	}
	show := func(v int) api.Flow { return let(1, prims("print", local(v)), ret(whole(1))) }
	last := len(all) - 1
	many := func(kind, take, n int) api.Program {
		return api.Program{Funs: []api.Func{{Locals: 3, Body: let(0, api.Op{Kind: kind, F: 1, Args: all}, let(2, prims("ref", local(0)), let(2, prims("get", local(2)), let(1, api.Op{Kind: take, N: n, Args: atoms{local(n % 3 / 2 * 2)}}, show(1)))))}, {Params: 2, Locals: 2, Body: ret(local(1))}}}
	}
	for _, n := range []int{0, 15, 16, 17, 500, last} {
		great(t, "fields", many(api.OpBlock, api.OpField, n), many(api.OpBlock, api.OpField, api.MaxArity))
		great(t, "captured values", many(api.OpClosure, api.OpCapture, n), many(api.OpClosure, api.OpCapture, api.MaxArity))
	}
	params := api.Program{Funs: []api.Func{{Locals: 1, Body: let(0, call(1, all...), tail(1, all))}, {Params: len(all), Locals: len(all) + 5, Body: show(last)}}}
	great(t, "parameters", params, api.Program{})
	params.Funs = append(params.Funs, api.Func{Params: len(all), Locals: len(all) + 1, Body: let(len(all), prims("cat", local(3), local(last)), tail(2, turned))})
	params.Funs[0].Body = let(0, call(1, all...), tail(2, all))
	great(t, "parameters that go round", params, api.Program{})
	params.Funs[2].Body = tail(2, turned)
	great(t, "parameters that nothing needs", params, api.Program{})
	far := api.MaxCode - 1
	locals := func(far int) api.Program {
		p := one(api.MaxCode, let(far, says("a"), let(0, atomOp(local(far)), try(let(far, says("b"), raise(local(far))), 5, ret(local(far)), far, let(0, atomOp(local(far)), ret(local(0)))))))
		p.Funs = append(p.Funs, api.Func{Params: 3, Locals: api.MaxCode, Body: ret(local(2))})
		return p
	}
	great(t, "locals", locals(far), locals(far+1))
	// unsteady ones, as many as may be set
	f := ret(whole(1))
	for v := range 3300 {
		f = try(let(v, says("b"), raise(local(v))), 9999, ret(local(v)), 9998, let(9997, prims("eq", local(v), local(v)), f))
	}
	for v := range 3300 {
		f = let(v, says("a"), f)
	}
	great(t, "unsteady locals", one(10000, f), api.Program{})
}

// weight is how many limbs, atoms and tags something has in all.
func weight(x reflect.Value) int {
	n := 0
	switch x.Kind() {
	case reflect.Slice:
		if kind := x.Type().Elem().Kind(); kind == reflect.Uint32 || kind == reflect.Int {
			return x.Len()
		}
		for i := range x.Len() {
			n += 1 + weight(x.Index(i))
		}
	case reflect.Struct:
		for i := range x.NumField() {
			n += weight(x.Field(i))
		}
	}
	return n
}

// noHeavier holds a program against what is made of it: that takes not much more room.
func noHeavier(t *testing.T, what string, p api.Program) {
	t.Helper()
	q := made(t, p)
	alike(t, p, q, worlds()[0], 20, 3000)
	if was, is := weight(reflect.ValueOf(p)), weight(reflect.ValueOf(q)); is > was+was/2 {
		t.Errorf("%s: it weighs %d, not %d", what, is, was)
	}
}

// What takes much room stands in no more places than it did: long integers, and nodes with many arguments or tags.
func TestHeavy(t *testing.T) {
	calls := ret(whole(1))
	for range 400 {
		calls = let(1, call(1, local(0)), let(1, prims("print", local(1)), calls))
	}
	long, many := slices.Repeat(atoms{limbs(50)}, 10), slices.Repeat(atoms{whole(1)}, 900)
	kept := func(o api.Op) api.Flow { // a body that keeps what an operation makes
		return let(1, says("k"), let(1, o, let(2, prims("ref", local(1)), let(2, prims("set", local(2), local(2)), ret(word("a"))))))
	}
	wide := api.Flow{Kind: api.FlowSwitch, A: local(0), Kids: kids{ret(word("f"))}}
	for i := range 100 {
		wide.Tags, wide.Kids = append(wide.Tags, i), append(kids{raise(word("g"))}, wide.Kids...)
	}
	for what, body := range map[string]api.Flow{
		"a long integer": kept(prims("ref", limbs(5000))), "a block of long ones": kept(api.Op{Kind: api.OpBlock, Args: long}), "a block of many": kept(api.Op{Kind: api.OpBlock, Args: many}), "a switch": wide, "what is returned": let(1, says("r"), ret(limbs(500))), "arguments": let(1, says("r"), tail(2, many)),
	} {
		p := api.Program{Funs: []api.Func{{Locals: 2, Body: hidden(0, small(555), calls)}, {Params: 1, Locals: 4, Body: body}, {Params: len(many), Locals: len(many), Body: ret(local(0))}}}
		noHeavier(t, what, p)
		twice := let(3, says("x"), tail(1, atoms{local(0)}))
		noHeavier(t, what+" in tails", api.Program{Funs: []api.Func{{Locals: 4, Body: let(3, prims("ref", small(1)), let(0, prims("get", local(3)), let(2, atomOp(local(0)), let(0, atomOp(local(3)), bush(200, twice)))))}, p.Funs[1], p.Funs[2]}})
	}
	// copies of a long integer are not put in, whatever it comes through
	var b strings.Builder
	for i := range 300 {
		b.WriteString(`let ` + strconv.Itoa(i+3) + ` = block 0 v` + strconv.Itoa(i%3) + ` v` + strconv.Itoa(i+2) + `; `)
	}
	noHeavier(t, "copies", programWith(t, given(), `let 0 = atom $more; let 1 = block 0 v0; let 1 = field 0 v1; let 2 = call f1 $most; `+b.String()+`let 400 = eq v301 v302; raise v400`, `1: let 1 = closure f2 v0; let 1 = apply v1 v0; ret v1`, `2: let 2 = capture 0 v0; ret v2`))
	noHeavier(t, "an argument", programWith(t, given(), `let 0 = call f1 $most; raise v0`, `1: let 1 = block 0 v0 v0 v0 v0 v0; ret v1`))
	// what is behind a try is not laid in several places, if it takes much room
	for what, o := range map[string]api.Op{"behind a try": {Kind: api.OpBlock, Args: long}, "more behind a try": {Kind: api.OpBlock, Args: many}} {
		noHeavier(t, what, one(4, hidden(0, small(1), try(choose(local(0), ret(word("a")), choose(local(0), ret(word("b")), ret(word("c")))), 1, raise(local(1)), 1, let(3, prims("print", local(1)), let(2, o, raise(local(2))))))))
	}
}

// P12.2: handed in again and again, what was answered comes to rest: functions that call one another are not laid in one another
// without end.
func TestAtRest(t *testing.T) {
	for _, r := range []funs{
		{`let 9 = call f1 5; let 9 = call f2 5; ret v9`, `1: let 1 = le v0 0; if v1 { ret 1 } { let 2 = print "e"; let 3 = sub v0 1; tail f2 v3 }`, `1: let 1 = le v0 0; if v1 { ret 0 } { let 2 = print "o"; let 3 = sub v0 1; tail f1 v3 }`},
		{`let 9 = call f1; let 9 = call f2; let 9 = call f3; ret v9`, `let 0 = print "a"; let 0 = call f2; let 1 = print "d"; ret v0`, `let 0 = print "b"; let 0 = call f3; ret v0`, `let 0 = inputline 1; let 0 = size v0; let 0 = chr v0; if v0 { tail f1 } { ret 1 }`},
		{`let 0 = inputline 1; let 0 = size v0; let 0 = chr v0; if v0 { tail f1 } { ret 1 }`, `let 0 = call f0; let 1 = print "x"; tail f0`},
		{`let 9 = call f1 5; let 8 = call f1 6; ret v9`, `1: let 1 = sub v0 1; let 2 = print "a"; tail f1 v1`},
		{`try { let 9 = call f1 5; let 9 = call f1 6; ret v9 } catch 0 { tail f1 7 } then 9; ret v9`, `1: let 1 = chr v0; let 2 = sub v0 1; let 3 = call f1 v2; ret v3`},
	} {
		p := program(t, r...)
		q := again(t, p, 3)
		last := again(t, q, 20)
		if size(last) > size(q) {
			t.Errorf("%d nodes, then %d\n%s\n%s", size(q), size(last), shown(q), shown(last))
		}
		alike(t, p, last, worlds()[0], 200, 1000)
	}
}
