package data_test

import (
	"math"
	"slices"
	"strconv"
	"testing"

	"smithy/api"
	"smithy/data"
)

// numbersOfArguments are such that arguments are handed on in each way.
func numbersOfArguments() []int {
	return []int{1, 2, 5, 6, 7, 8, 24, 25, 100, api.MaxArity}
}

func primOf(name string, args ...api.Atom) api.Op {
	return api.Op{Kind: api.OpPrim, Name: name, Args: args}
}

// holdMany holds a program, as it is and in parts.
func holdMany(t *testing.T, p api.Program) {
	t.Helper()
	holdEnd(t, p, smallWorld())
	for _, most := range []int{1, 30} {
		q := data.InParts(p, most)
		holdMade(t, p, q, smallWorld(), 1<<19)
		keptMade(t, p, q, smallWorld(), true)
	}
}

// P18.2: arguments that lie in each other's places, in calls, tails and tries.
func TestTurnedArguments(t *testing.T) {
	t.Parallel()
	for _, many := range numbersOfArguments() {
		turned := func(shift int) (l atoms) {
			for i := range many {
				l = append(l, local((i+shift)%many))
			}
			return l
		}
		var names atoms
		for i := range many {
			names = append(names, api.Atom{Kind: api.AtomText, Text: strconv.Itoa(i) + " "})
		}
		print := func(v int, next api.Flow) api.Flow { return let(many, primOf("print", local(v)), next) }
		call := func(v, f int, l atoms, next api.Flow) api.Flow {
			return let(v, api.Op{Kind: api.OpCall, F: f, Args: l}, print(v, next))
		}
		all := chain(many, func(i int) (int, api.Op) { return many, primOf("print", local(i)) }, ret(local(many/2)))
		inTry := func(l atoms, raised api.Flow) api.Flow {
			return api.Flow{Kind: api.FlowTry, V: many, W: many + 1, Kids: kids{tail(4, l), raised, print(many+1, print(many-1, tail(5, turned(3))))}}
		}
		p := api.Program{}
		for _, body := range []api.Flow{
			print(0, tail(2, turned(1))),
			call(many+1, 3, turned(5), print(0, tail(3, turned(many-1)))),
			inTry(turned(2), ret(local(many))),
			let(many, primOf("print", api.Atom{Kind: api.AtomText, Text: "raise "}), api.Flow{Kind: api.FlowIf, A: api.Atom{Kind: api.AtomSmall, V: many % 2}, Kids: kids{tail(5, turned(7)), {Kind: api.FlowRaise, A: local(many - 1)}}}),
			all,
		} {
			p.Funs = append(p.Funs, api.Func{Params: many, Locals: many + 2, Body: body})
		}
		p.Funs = append([]api.Func{{Locals: many + 1, Body: call(0, 1, names, ret(whole(1)))}}, p.Funs...)
		if run := outcome(t, p, smallWorld()); run.Status != api.Exited {
			t.Fatal(many, told(run))
		}
		holdMany(t, p)
	}
}

// mixed are constants of all kinds, and the local 0 between them, which is a text; with what shows that each came to its place.
func mixed(many int) (l atoms, show func(v, i int, next api.Flow) api.Flow) {
	kinds := atoms{{Kind: api.AtomText, Text: "text "}, {Kind: api.AtomSmall, V: 1<<30 - 1}, whole(-7), {Kind: api.AtomReal, Bits: math.Float64bits(-1.5)}, {Kind: api.AtomExn, V: 3}, local(0), {Kind: api.AtomInt, Int: api.Int{Neg: true, Mag: []uint32{1, 2, 3}}}}
	for i := range many {
		l = append(l, kinds[i%len(kinds)])
	}
	how := [][]string{{}, {"ord", "itext"}, {"itext"}, {"rbits", "itext"}, {"get"}, {}, {"itext"}}
	return l, func(v, i int, next api.Flow) api.Flow {
		next = let(v, primOf("print", local(v)), next)
		l := how[i%len(how)]
		for j := len(l) - 1; j >= 0; j-- {
			next = let(v, primOf(l[j], local(v)), next)
		}
		return next
	}
}

// P18.2: arguments, fields, captured values of all kinds.
func TestMixedArguments(t *testing.T) {
	t.Parallel()
	for _, many := range numbersOfArguments() {
		l, show := mixed(many)
		shown := func(from func(i int) api.Op) api.Flow {
			f := ret(whole(1))
			for i := many - 1; i >= 0; i-- {
				f = let(many+1, from(i), show(many+1, i, f))
			}
			return f
		}
		name := api.Op{Kind: api.OpAtom, Args: atoms{{Kind: api.AtomText, Text: "local "}}}
		part := func(kind int) func(i int) api.Op {
			return func(i int) api.Op { return api.Op{Kind: kind, N: i, Args: atoms{local(many)}} }
		}
		for what, body := range map[string]api.Flow{
			"call": let(many, api.Op{Kind: api.OpCall, F: 1, Args: l}, ret(whole(1))), "tail": tail(1, l),
			"block":   let(many, api.Op{Kind: api.OpBlock, N: 9, Args: l}, shown(part(api.OpField))),
			"closure": let(many, api.Op{Kind: api.OpClosure, F: 2, Args: l}, shown(part(api.OpCapture))),
			"behind":  let(many+2, name, let(many, api.Op{Kind: api.OpBlock, N: 9, Args: l}, let(many+3, api.Op{Kind: api.OpCall, F: 1, Args: l}, shown(part(api.OpField))))),
		} {
			args := shown(func(i int) api.Op { return api.Op{Kind: api.OpAtom, Args: atoms{local(i)}} })
			p := api.Program{Funs: []api.Func{{Locals: many + 4, Body: let(0, name, body)}, {Params: many, Locals: many + 4, Body: args}, {Params: 2, Locals: 2, Body: ret(whole(1))}}}
			if run := outcome(t, p, smallWorld()); run.Status != api.Exited || len(run.Trace) == 0 {
				t.Fatal(what, many, told(run))
			}
			holdMany(t, p)
		}
	}
}

// P18.2: many arguments are moved down by each number of places that are let go.
func TestArgumentsMovedDown(t *testing.T) {
	t.Parallel()
	for _, many := range []int{9, 30} {
		for live := range 5 {
			for last := range 5 {
				text := api.Atom{Kind: api.AtomText, Text: "constant "}
				args := append(params(live+last), slices.Repeat(atoms{text}, many-live-last)...)
				f := api.Flow{Kind: api.FlowLet, V: live + last, Op: api.Op{Kind: api.OpCall, F: 1, Args: args}, Kids: kids{chain(live, func(i int) (int, api.Op) {
					return 10, primOf("print", local(i))
				}, ret(whole(1)))}}
				f = chain(live+last, func(i int) (int, api.Op) {
					return i, primOf("cat", api.Atom{Kind: api.AtomText, Text: strconv.Itoa(i)}, api.Atom{Kind: api.AtomText, Text: " "})
				}, f)
				shown := chain(many, func(i int) (int, api.Op) { return many, primOf("print", local(i)) }, ret(whole(1)))
				holdMany(t, api.Program{Funs: []api.Func{{Locals: 11, Body: f}, {Params: many, Locals: many + 1, Body: shown}}})
			}
		}
	}
}
