package data_test

import (
	"fmt"
	"slices"
	"strings"
	"testing"

	"smithy/api"
	"smithy/big"
	"smithy/data"
	"smithy/flow"
	"smithy/word"
)

// holdLong holds whether what comes of a program that may be is too long.
func holdLong(t *testing.T, what string, p api.Program, long bool) api.WordProgram {
	t.Helper()
	if e := flow.Check(p); e != api.OK {
		t.Fatal(what, e)
	}
	q, e := data.Program(p)
	switch {
	case long && (e != api.ErrLong || q.Funs != nil || q.Data != nil || q.Zero != 0):
		t.Errorf("%s: %v, %d functions", what, e, len(q.Funs))
	case !long && (e != api.OK || word.Check(q) != api.OK || q.Funs[0].Name != "main"):
		t.Errorf("%s: %v, %v", what, e, word.Check(q))
	}
	return q
}

// nodes counts a program's flow nodes.
func nodes(p api.Program) int {
	n := 0
	var count func(f *api.Flow)
	count = func(f *api.Flow) {
		n++
		for i := range f.Kids {
			count(&f.Kids[i])
		}
	}
	for i := range p.Funs {
		count(&p.Funs[i].Body)
	}
	return n
}

// chain is a row of lets, one behind the other, and what stands behind them.
func chain(many int, op func(i int) (int, api.Op), end api.Flow) api.Flow {
	for i := many - 1; i >= 0; i-- {
		v, o := op(i)
		end = let(v, o, end)
	}
	return end
}

// wide is a function with as many parameters as may be.
func wide(body api.Flow, locals int) api.Func {
	return api.Func{Params: api.MaxArity, Locals: api.MaxArity + locals, Body: body}
}

// params are the first so many locals.
func params(many int) atoms {
	var out atoms
	for v := range many {
		out = append(out, local(v))
	}
	return out
}

// great are programs of 2000 nodes with as much in them as may be.
func great() map[string]api.Program {
	const many = 2000
	all := params(api.MaxArity)
	first := api.Func{Body: ret(whole(1))}
	two := api.Func{Params: 2, Locals: 2, Body: ret(local(0))}
	out := map[string]api.Program{}
	for name, o := range map[string]api.Op{
		"blocks": {Kind: api.OpBlock, N: 3, Args: all}, "closures": {Kind: api.OpClosure, F: 1, Args: all}, "calls": {Kind: api.OpCall, F: 2, Args: all},
		"blocks of constants": {Kind: api.OpBlock, Args: slices.Repeat(atoms{whole(5)}, api.MaxArity)}, "calls of constants": {Kind: api.OpCall, F: 2, Args: slices.Repeat(atoms{whole(1 << 62)}, api.MaxArity)},
	} {
		body := func(wanted int) api.Flow {
			return chain(many-4, func(i int) (int, api.Op) { return api.MaxArity + i%wanted, o }, ret(local(api.MaxArity+wanted-1)))
		}
		out[name] = api.Program{Funs: []api.Func{first, two, wide(body(1), 1)}}
		out[name+" of which none is wanted"] = api.Program{Funs: []api.Func{first, two, wide(body(2), 2)}}
		kept := chain(many-4, func(i int) (int, api.Op) { return api.MaxArity + i, o }, api.Flow{Kind: api.FlowTail, F: 2, Args: params(api.MaxArity + many - 4)[many-4:]})
		out[name+" that are kept"] = api.Program{Funs: []api.Func{first, two, wide(kept, many)}}
	}
	tails := api.Flow{Kind: api.FlowSwitch, A: local(0)}
	for i := range many - 2 {
		tails.Tags = append(tails.Tags, i*i)
		tails.Kids = append(tails.Kids, tail(1, all))
	}
	tails.Kids = append(tails.Kids[1:], ret(local(1)), ret(local(2)))
	out["tails"] = api.Program{Funs: []api.Func{first, wide(tails, 0)}}
	out["tails in a try"] = api.Program{Funs: []api.Func{first, wide(api.Flow{Kind: api.FlowTry, V: 0, W: 1, Kids: kids{tails, ret(local(0)), ret(local(1))}}, 0)}}
	out["functions"] = api.Program{Funs: slices.Repeat([]api.Func{first}, many)}
	return out
}

// P18.1: of programs of at most 2000 nodes and 60000 bytes of texts ErrLong is never told for what comes of them.
func TestGreat(t *testing.T) {
	for what, p := range great() {
		if n := nodes(p); n > 2010 {
			t.Fatal(what, n)
		}
		q := holdLong(t, what, p, false)
		lines, regs := 0, 0
		for _, f := range q.Funs {
			lines += len(f.Code)
			regs = max(regs, f.Regs)
		}
		t.Log(what, nodes(p), lines, regs)
	}
}

var _ = fmt.Sprint
var _ = strings.Repeat
var _ = big.Of
