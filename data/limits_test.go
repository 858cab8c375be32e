package data_test

import (
	"fmt"
	"slices"
	"strconv"
	"strings"
	"testing"

	"smithy/api"
	"smithy/data"
	"smithy/flow"
	"smithy/word"
)

// holdLong holds whether what comes of a program that may be is too long.
func holdLong(t *testing.T, what string, p api.Program, long bool) api.WordProgram {
	t.Helper()
	if e := flow.Check(p); e != api.OK {
		t.Fatal(what, e)
	}
	q, e := data.Program(p)
	switch {
	case long && (e != api.ErrLong || q.Funs != nil || q.Data != nil || q.Zero != 0):
		t.Errorf("%s: %v, %d functions", what, e, len(q.Funs))
	case !long && (e != api.OK || word.Check(q) != api.OK || q.Funs[0].Name != "main"):
		t.Errorf("%s: %v, %v", what, e, word.Check(q))
	}
	return q
}

// nodes counts a program's flow nodes.
func nodes(p api.Program) int {
	n := 0
	var count func(f *api.Flow)
	count = func(f *api.Flow) {
		n++
		for i := range f.Kids {
			count(&f.Kids[i])
		}
	}
	for i := range p.Funs {
		count(&p.Funs[i].Body)
	}
	return n
}

// chain is a row of lets, one behind the other, and what stands behind them.
func chain(many int, op func(i int) (int, api.Op), end api.Flow) api.Flow {
	for i := many - 1; i >= 0; i-- {
		v, o := op(i)
		end = let(v, o, end)
	}
	return end
}

// wide is a function with as many parameters as may be.
func wide(body api.Flow, locals int) api.Func {
	return api.Func{Params: api.MaxArity, Locals: api.MaxArity + locals, Body: body}
}

// params are the first so many locals.
func params(many int) atoms {
	var out atoms
	for v := range many {
		out = append(out, local(v))
	}
	return out
}

// great are programs of 2000 nodes with as much in them as may be.
func great() map[string]api.Program {
	const many = 1990
	all := params(api.MaxArity)
	first := api.Func{Body: ret(whole(1))}
	two := api.Func{Params: 2, Locals: 2, Body: ret(local(0))}
	out := map[string]api.Program{}
	for name, o := range map[string]api.Op{
		"blocks": {Kind: api.OpBlock, N: 3, Args: all}, "closures": {Kind: api.OpClosure, F: 1, Args: all}, "calls": {Kind: api.OpCall, F: 2, Args: all},
		"blocks of constants": {Kind: api.OpBlock, Args: slices.Repeat(atoms{whole(5)}, api.MaxArity)}, "calls of constants": {Kind: api.OpCall, F: 2, Args: slices.Repeat(atoms{whole(1 << 62)}, api.MaxArity)},
	} {
		body := func(wanted int) api.Flow {
			return chain(many-4, func(i int) (int, api.Op) { return api.MaxArity + i%wanted, o }, ret(local(api.MaxArity+wanted-1)))
		}
		out[name] = api.Program{Funs: []api.Func{first, two, wide(body(1), 1)}}
		out[name+" of which none is wanted"] = api.Program{Funs: []api.Func{first, two, wide(body(2), 2)}}
		kept := chain(many-4, func(i int) (int, api.Op) { return api.MaxArity + i, o }, api.Flow{Kind: api.FlowTail, F: 2, Args: params(api.MaxArity + many - 4)[many-4:]})
		out[name+" that are kept"] = api.Program{Funs: []api.Func{first, two, wide(kept, many)}}
	}
	tails := api.Flow{Kind: api.FlowSwitch, A: local(0)}
	for i := range many - 2 {
		tails.Tags = append(tails.Tags, i*i)
		tails.Kids = append(tails.Kids, tail(1, all))
	}
	tails.Kids = append(tails.Kids[1:], ret(local(1)), ret(local(2)))
	out["tails"] = api.Program{Funs: []api.Func{first, wide(tails, 0)}}
	out["tails in a try"] = api.Program{Funs: []api.Func{first, wide(api.Flow{Kind: api.FlowTry, V: 0, W: 1, Kids: kids{tails, ret(local(0)), ret(local(1))}}, 0)}}
	// all that a switch's kids want are constants and one parameter, which is wanted behind a try
	alone := api.Flow{Kind: api.FlowSwitch, A: local(api.MaxArity - 1), Tags: rowOf(0, many-6, 3), Kids: slices.Repeat(kids{tail(1, slices.Repeat(atoms{whole(9)}, api.MaxArity))}, many-6)}
	alone.Kids = append(alone.Kids, tail(1, all))
	out["much that is let go"] = api.Program{Funs: []api.Func{first, wide(api.Flow{Kind: api.FlowTry, V: 0, W: 1, Kids: kids{alone, ret(local(api.MaxArity - 2)), ret(local(1))}}, 0)}}
	out["functions"] = api.Program{Funs: slices.Repeat([]api.Func{first}, many)}
	return out
}

// P18.1: of programs of at most 2000 nodes and 60000 bytes of texts ErrLong is never told for what comes of them.
func TestGreat(t *testing.T) {
	t.Parallel()
	for what, p := range great() {
		if n := nodes(p); n > 2000 {
			t.Fatal(what, n)
		}
		lines := 0
		for _, f := range holdLong(t, what, p, false).Funs {
			lines += len(f.Code)
		}
		if lines > 5000+100*nodes(p) { // no promise says so, but greater programs have room by it
			t.Errorf("%s: %d instructions", what, lines)
		}
	}
	texts := chain(1990, func(i int) (int, api.Op) {
		return i, api.Op{Kind: api.OpAtom, Args: atoms{{Kind: api.AtomText, Text: strconv.Itoa(i) + strings.Repeat("t", 26)}}}
	}, tail(1, params(1990)[:api.MaxArity]))
	p := api.Program{Funs: []api.Func{{Locals: 1990, Body: texts}, wide(ret(local(5)), 0)}}
	holdLong(t, "texts", p, false)
	p.Funs[0].Locals = api.MaxCode
	holdLong(t, "locals that are never set", p, false)
}

// switches is a program with switches of so many tags from one on, and blocks of them.
func switches(tags []int, blocks bool) api.Program {
	var p api.Program
	for l := range slices.Chunk(tags, 20000) {
		f := api.Flow{Kind: api.FlowSwitch, A: whole(1), Tags: l, Kids: slices.Repeat(kids{ret(whole(1))}, len(l)+1)}
		if blocks {
			f = ret(whole(1))
			for _, tag := range l[:min(len(l), 9000)] {
				f = let(0, api.Op{Kind: api.OpBlock, N: tag}, f)
			}
		}
		p.Funs = append(p.Funs, api.Func{Locals: 1, Body: f})
	}
	return p
}

func rowOf(from, many, step int) []int {
	var out []int
	for i := range many {
		out = append(out, from+i*step)
	}
	return out
}

// P18.1: how many tags may be named, by blocks, by switches, by both, often or not.
func TestTags(t *testing.T) {
	t.Parallel()
	const most = 65534
	for _, r := range []struct {
		what string
		tags []int
		long bool
	}{
		{"from 2 on", rowOf(2, most, 1), false}, {"from 2 on, and one more", rowOf(2, most+1, 1), true}, {"0 and 1, too", rowOf(0, most+2, 1), false}, {"0 and 1, too, and one more", rowOf(0, most+3, 1), true},
		{"great ones", rowOf(1<<30-most, most, 1), false}, {"great ones, and one more", rowOf(1<<30-most-1, most+1, 1), true}, {"far apart", rowOf(3, most, 16000), false}, {"far apart, and one more", rowOf(3, most+1, 16000), true},
		{"around what a header has room for", rowOf(1<<16-1000, most, 1), false}, {"around that, and one more", rowOf(1<<16-1000, most+1, 1), true},
	} {
		for _, blocks := range []bool{false, true} {
			p := switches(r.tags, false)
			if blocks { // half of them, which switches don't name
				p = switches(r.tags[:len(r.tags)/2], false)
				for l := range slices.Chunk(r.tags[len(r.tags)/2:], 9000) {
					p.Funs = append(p.Funs, switches(l, true).Funs...)
				}
			}
			holdLong(t, r.what, p, r.long)
			for _, f := range p.Funs[:1] { // those that are named again don't count
				p.Funs = append(p.Funs, f)
			}
			holdLong(t, r.what+", some again", p, r.long)
		}
	}
}

// P18.1: what comes of a program may be too great: its data, its instructions. What is thrown then is what may be thrown.
func TestTooGreat(t *testing.T) {
	text := strings.Repeat("t", api.MaxString-4)
	texts := func(many int) api.Program {
		var p api.Program
		for l := range slices.Chunk(rowOf(0, many, 1), 1000) {
			p.Funs = append(p.Funs, api.Func{Locals: 1, Body: chain(len(l), func(i int) (int, api.Op) {
				return 0, api.Op{Kind: api.OpPrim, Name: "print", Args: atoms{{Kind: api.AtomText, Text: fmt.Sprintf("%04d", l[i]) + text}}}
			}, ret(whole(1)))})
		}
		return p
	}
	fit := (api.MaxData - 1<<16) / (api.MaxString + 8)
	calls := func(functions, params int) api.Program {
		o := api.Op{Kind: api.OpCall, F: 1, Args: slices.Repeat(atoms{whole(1)}, params)}
		body := chain(9000, func(int) (int, api.Op) { return 0, o }, ret(whole(1)))
		first, last := api.Func{Body: tail(1, slices.Repeat(atoms{whole(1)}, params))}, api.Func{Params: params, Locals: params + 1, Body: ret(whole(1))}
		return api.Program{Funs: append([]api.Func{first, last}, slices.Repeat([]api.Func{{Locals: 1, Body: body}}, functions)...)}
	}
	for _, r := range []struct {
		what string
		p    api.Program
		long bool
	}{
		{"texts that don't fit", texts(fit + 3), true}, {"instructions that fit", calls(3, 24), false}, {"instructions that don't", calls(9, 24), true},
		{"arguments that fit", calls(3, api.MaxArity), false}, {"arguments that don't", calls(4, api.MaxArity), true},
	} {
		holdLong(t, r.what, r.p, r.long)
		if r.long && !data.Thrown(r.p) {
			t.Error(r.what, "throws something else")
		}
	}
}
