package data_test

import (
	"strings"
	"testing"

	"smithy/api"
	"smithy/data"
	"smithy/world"
)

// keptLoop is a function that goes on for ever, asking for memory that nobody keeps: function 1 of the programs below.
const keptLoop = `let 0 = ref 1; tail f1`

// bigThing is how many bytes the programs below make that are to be let go, or to be kept.
const bigThing = 5000

// reached is how many bytes are reached, once a program has been at it for some time.
func reached(t *testing.T, q api.WordProgram, what string) uint64 {
	t.Helper()
	k := newKeeper(t, q, world.New(smallWorld()), someHeld, someHalf, true)
	st := k.run(60000)
	if st != api.Running || k.lost || k.calls < 100 {
		t.Fatalf("%s: %d, %v, code %d", what, st, k.lost, k.s.Code())
	}
	before := k.most
	k.most = 0
	k.run(3000)
	if k.most > before {
		t.Fatalf("%s: %d and then %d bytes are reached", what, before, k.most)
	}
	return k.most
}

// P18.2: what isn't live isn't kept, wherever it was last wanted.
func TestLetGo(t *testing.T) {
	t.Parallel()
	const big = `let 0 = bnew 5000; `
	for _, funs := range []funs{
		{big + `let 1 = blen v0; let 2 = call f1; ret v2`},
		{big + `let 1 = ref 1; let 2 = blen v0; let 3 = call f1; let 4 = get v1; ret v4`}, // below what is live
		{big + `let 1 = atom v0; let 2 = call f1; ret v2`},                                // another name, that nobody wants
		{big + `let 1 = block 3 v0; let 2 = call f1; ret v2`},
		{big + `let 1 = ref v0; let 2 = get v1; let 3 = blen v2; let 3 = call f1; ret v3`},
		{big + `let 0 = blen v0; let 1 = call f1; ret v0`}, // set again
		{big + `let 1 = ref 7; let 0 = atom 5; let 2 = call f1; let 3 = get v1; ret v0`},
		// wanted in another branch alone
		{big + `if #1 { let 1 = call f1; ret v1 } { ret v0 }`},
		{big + `if #0 { ret v0 } { let 1 = call f1; ret v1 }`},
		{big + `let 1 = ref 8; switch #3 3 { let 2 = call f1; ret v1 } 4 { ret v0 } { ret v0 }`},
		{big + `switch #9 3 { ret v0 } { let 2 = call f1; ret v2 }`},
		{big + `if #1 { let 1 = print ""; if #1 { let 2 = call f1; ret v2 } { ret v1 } } { ret v0 }`},
		// in tries
		{big + `try { let 1 = call f1; ret v1 } catch 1 { ret 1 } then 2; ret v2`},
		{big + `try { let 1 = blen v0; let 1 = call f1; ret v1 } catch 1 { ret 1 } then 2; ret v2`},
		{big + `try { ret v0 } catch 1 { ret 1 } then 2; let 3 = call f1; ret v3`},
		{big + `try { ret 1 } catch 1 { ret v0 } then 2; let 3 = call f1; ret v3`},
		{big + `try { raise v0 } catch 1 { ret 1 } then 2; let 3 = call f1; ret v3`},
		{big + `try { raise v0 } catch 1 { let 3 = call f1; ret v3 } then 2; ret v2`},
		{big + `try { raise 1 } catch 1 { let 3 = call f1; ret v3 } then 2; ret v2`},
		{big + `try { let 3 = call f2 v0; ret 1 } catch 1 { ret 2 } then 2; let 3 = call f1; ret v3`, keptLoop, `1: raise v0`},
		{big + `try { let 4 = ref 1; try { raise v0 } catch 1 { ret 3 } then 2; let 3 = call f1; ret v4 } catch 1 { ret 2 } then 2; ret v2`},
		{`let 5 = ref 1; let 0 = bnew 5000; try { let 6 = blen v0; ret v6 } catch 1 { ret 1 } then 2; let 7 = ref 2; let 3 = call f1; let 4 = get v5; let 4 = get v7; ret v2`},
		{`let 5 = ref 1; try { let 0 = bnew 5000; let 8 = ref 2; let 6 = blen v0; raise v8 } catch 1 { let 9 = bnew 5; let 3 = call f1; let 4 = get v1; ret v3 } then 2; let 4 = get v5; ret v2`},
		{`try { let 0 = bnew 5000; let 6 = ref v0; ret v6 } catch 1 { ret 1 } then 2; let 3 = get v2; let 3 = call f1; ret v3`},
		// a place that was let go ahead of a try, and used and let go again within it
		{`let 0 = ref 1; let 5 = ref 2; let 1 = get v0; let 1 = call f2; try { let 6 = bnew 5000; let 7 = ref 3; let 8 = atom v6; ret v7 } catch 3 { ret v3 } then 2; let 3 = call f1; let 4 = get v5; ret v3`, keptLoop, `ret 1`},
		{`let 0 = ref 1; let 5 = ref 2; let 1 = get v0; let 1 = call f2; try { let 6 = bnew 5000; let 7 = ref 3; let 8 = atom v6; raise v7 } catch 3 { let 4 = call f1; ret v5 } then 2; ret v2`, keptLoop, `ret 1`},
		{`let 0 = ref 1; let 5 = ref 2; let 1 = get v0; let 1 = call f2; try { raise 1 } catch 3 { let 6 = bnew 5000; let 7 = ref 3; let 8 = atom v6; ret v7 } then 2; let 3 = call f1; let 4 = get v5; ret v3`, keptLoop, `ret 1`},
		{big + `try { ret 1 } catch 1 { ret 1 } then 2; let 3 = blen v0; let 4 = call f1; let 0 = atom 7; ret v0`}, // set again behind a try
		// what was handed on: not kept by the one that did so, nor by the other one
		{big + `tail f2 v0`, keptLoop, `1: let 1 = blen v0; let 1 = call f1; ret v1`},
		{big + `tail f2 v0`, keptLoop, `1: let 1 = call f1; ret v1`},
		{big + `let 1 = call f2 v0; ret v1`, keptLoop, `1: let 1 = call f1; ret v1`},
		{big + `let 1 = call f2 v0 v0 v0 1 2; ret v1`, keptLoop, `5: let 1 = call f1; ret v4`},
		{big + `let 1 = call f2 v0 v0 v0 v0 v0 v0 v0 1 2; ret v1`, keptLoop, `9: let 1 = call f1; ret v8`},
		{big + `let 1 = ref 1; let 2 = call f2 v0 v0 v0 v0 v0 v0 v0 1 2; ret v1`, keptLoop, `9: let 1 = call f1; ret v8`},
		{big + `tail f2 v0 v0 v0 v0 v0 v0 v0 1 2`, keptLoop, `9: let 1 = call f1; ret v8`},
		{big + `let 1 = closure f2 v0; let 1 = closure f2 7; let 2 = apply v1 v0; ret v2`, keptLoop, `2: let 2 = call f1; ret v0`},
		{big + `let 1 = closure f2 7; go v1 v0`, keptLoop, `2: let 2 = call f1; ret v0`},
		{big + `let 1 = closure f2 v0; go v1 3`, keptLoop, `2: let 2 = capture 0 v0; let 2 = blen v2; let 2 = call f1; ret v2`},
		{big + `let 1 = closure f2 v0; let 2 = patch 0 v1 5; let 3 = call f1; ret v1`, keptLoop, `2: ret 1`},
		{big + `let 1 = closure f2 5; let 2 = patch 0 v1 v0; let 2 = patch 0 v1 7; let 3 = call f1; ret v1`, keptLoop, `2: ret 1`},
		{big + `let 1 = closure f2 v0; let 5 = ref 1; let 2 = patch 0 v1 7; let 3 = call f1; ret v5`, keptLoop, `2: ret 1`},
		{big + `let 1 = block 1 v0; let 1 = field 0 v1; let 2 = bset v1 0 7; let 3 = call f1; ret v3`},
		{big + `let 1 = set !3 v0; let 1 = set !3 "x"; let 3 = call f1; ret v3`},
		// behind other calls
		{big + `let 1 = blen v0; let 2 = call f2; let 3 = call f1; ret v1`, keptLoop, `ret 7`},
		{big + `let 1 = call f2 v0; let 3 = call f1; ret v1`, keptLoop, `1: let 1 = ref v0; let 2 = get v1; ret 7`},
	} {
		holdKept(t, funs, false)
	}
	// what a function still wants is kept
	for _, funs := range []funs{
		{big + `let 1 = call f1; ret v0`},
		{big + `let 1 = ref 1; let 2 = call f1; let 3 = blen v0; ret v3`},
		{big + `try { let 1 = call f1; ret v1 } catch 1 { ret v0 } then 2; ret v2`},
		{big + `try { let 1 = call f1; ret v1 } catch 1 { ret 1 } then 2; ret v0`},
		{big + `try { raise 1 } catch 1 { let 1 = call f1; ret v1 } then 2; ret v0`},
		{big + `let 1 = call f2 v0; ret v1`, keptLoop, `1: let 1 = call f1; ret v0`},
		{big + `let 1 = set !3 v0; let 3 = call f1; ret v3`},
		{big + `let 1 = closure f2 5; let 2 = patch 0 v1 v0; let 3 = call f1; let 4 = capture 0 v1; ret v4`, keptLoop, `2: ret 1`},
		{big + `try { raise v0 } catch 1 { let 2 = call f1; ret v1 } then 2; ret v2`},
		{big + `try { let 1 = bnew 1; try { let 2 = call f1; ret v2 } catch 3 { ret 1 } then 4; ret 5 } catch 3 { ret v0 } then 4; ret v4`},
		{`let 0 = ref 1; try { let 0 = bnew 5000; let 1 = call f1; ret v1 } catch 1 { ret v0 } then 2; ret v2`},
		{`let 0 = bnew 5000; try { let 1 = call f1; let 0 = ref 1; ret v1 } catch 1 { ret v0 } then 2; ret v2`},
	} {
		holdKept(t, funs, true)
	}
}

// holdKept holds whether a program keeps what is big, also if it is written in parts.
func holdKept(t *testing.T, l funs, keeps bool) {
	t.Helper()
	if len(l) == 1 {
		l = append(l, keptLoop)
	}
	p := program(t, l...)
	if run := outcome(t, p, smallWorld()); run.Status != api.Running {
		t.Fatalf("%s: %s", l[0], told(run))
	}
	for _, most := range []int{1 << 20, 40, 10, 1} {
		n := reached(t, data.InParts(p, most), l[0])
		if (n >= bigThing) != keeps || !keeps && n > 200 {
			t.Errorf("%d bytes are reached: %v", n, l)
		}
	}
}

// P18.2: what isn't live isn't kept where memory is asked for by the function itself, either.
func TestLetGoAtOnce(t *testing.T) {
	t.Parallel()
	const made = `let 0 = bnew 5000; let 1 = ref 1; `
	for _, last := range []string{`let 3 = ref 3; `, `let 3 = block 4 v1; `, `let 3 = closure f1 v1; `, `let 3 = vector #0; `, `let 3 = cat "a" "b"; `, `let 3 = add 4611686018427387903 1; `} {
		for between, keeps := range map[string]bool{
			`let 2 = atom v0; `: false, `let 2 = blen v0; `: false, `let 2 = block 3 v0; `: false, `let 0 = atom 1; `: false, `let 0 = ref 1; `: false, `if #1 { `: false,
			`let 2 = atom v0; let 4 = atom v2; `: false, `try { let 2 = atom v0; raise 1 } catch 4 { ret v4 } then 4; `: false, `let 2 = ref v0; `: true, `let 2 = block 3 v0 v1; `: true,
		} {
			then := ``
			if keeps {
				then = `let 4 = atom v2; `
			}
			text := made + between + last + then + `let 3 = atom v3; let 1 = get v1; ret 1`
			if strings.HasPrefix(between, "if") {
				text += ` } { ret v0 }`
			}
			k := keptIn(t, program(t, text, `2: ret 1`), smallWorld(), true)
			if k == nil || (k.last >= bigThing) != keeps {
				t.Errorf("what is big is kept, or is not: %s", text)
			}
		}
	}
}

// manyLetGo is a program that makes so many things, and then in one branch alone wants none of them any more, or only each so-many-th.
func manyLetGo(t *testing.T, many, each int) (p api.Program, kept int) {
	t.Helper()
	var wanted atoms
	for i := range many {
		if each > 0 && i%each == 1 {
			wanted = append(wanted, local(i))
		}
	}
	then := ret(whole(1))
	if len(wanted) > 0 {
		then = let(many, api.Op{Kind: api.OpCall, F: 2, Args: wanted}, then)
	}
	then = let(many, api.Op{Kind: api.OpCall, F: 1}, then)
	either := api.Flow{Kind: api.FlowIf, A: api.Atom{Kind: api.AtomSmall, V: 1}, Kids: kids{then, tail(3, params(many))}}
	body := chain(many, func(i int) (int, api.Op) {
		return i, api.Op{Kind: api.OpPrim, Name: "bnew", Args: atoms{whole(40)}}
	}, either)
	p = program(t, `ret 1`, keptLoop)
	p.Funs[0] = api.Func{Locals: many + 1, Body: body}
	for _, params := range []int{len(wanted), many} {
		p.Funs = append(p.Funs, api.Func{Params: params, Locals: params, Body: ret(whole(1))})
	}
	return p, len(wanted)
}

// P18.2: many places of a frame are let go at once, others between them are kept.
func TestLetManyGo(t *testing.T) {
	t.Parallel()
	for _, many := range []int{1, 5, 6, 7, 8, 13, 30, 300} {
		for _, each := range []int{0, 2, 5, 30} {
			p, kept := manyLetGo(t, many, each)
			n := reached(t, made(t, p), "many")
			if want := uint64(48 * kept); n < want || n > want+100 {
				t.Errorf("%d places, of which %d are kept: %d bytes", many, kept, n)
			}
		}
	}
}
