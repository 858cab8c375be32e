package data_test

import (
	"fmt"
	"sort"
	"strings"
	"testing"

	"smithy/api"
	"smithy/data"
	"smithy/flow"
)

// least steps with which a run has ended.
func stepsOf(t testing.TB, p api.Program, w api.World) int {
	t.Helper()
	return sort.Search(api.MaxFuel, func(n int) bool {
		out, e := flow.Run(p, w, n)
		if e != api.OK {
			t.Fatal(e)
		}
		return out.Status != api.Running
	})
}

// roomFor is the least heap in which P18.4 says that a program has room whose run ends within n steps; false, if it says nothing of it.
func roomFor(p api.Program, n int) (uint64, bool) {
	locals := 0
	for _, f := range p.Funs {
		locals = max(locals, f.Locals)
	}
	words := 64 * uint64(n+1) * uint64(locals+400)
	return max(8000*uint64(n)+2000000, words), words <= 1<<27
}

// holdRoom holds that a program has room; false, if P18.4 says nothing of it.
func holdRoom(t *testing.T, what string, p api.Program) bool {
	t.Helper()
	w := theWorld()
	n := stepsOf(t, p, w)
	run := outcome(t, p, w)
	heap, said := roomFor(p, n)
	if run.Status != api.Exited {
		t.Fatalf("%s: %s", what, told(run))
	}
	if !said {
		return false
	}
	for i, q := range []api.WordProgram{made(t, p), data.InParts(p, 200)} {
		if ended, full := process(t, q, w, heap, i == 0, run, what); !ended || full {
			t.Errorf("%s: %d steps, heap %d: ends %v, is full %v", what, n, heap, ended, full)
		}
	}
	return true
}

// again is a program that does something so many times, and keeps what comes of it in a list.
func again(t *testing.T, times int, made string, more ...string) api.Program {
	t.Helper()
	l := append(funs{`let 0 = call f1 ` + fmt.Sprint(times) + ` #0; ret v0`,
		`2: let 2 = le v0 0; if v2 { ret v1 } { ` + made + ` let 4 = block 0 v3 v1; let 4 = block 1 v4; let 5 = sub v0 1; tail f1 v5 v4 }`}, more...)
	return programWith(t, given(), l...)
}

// P18.4: programs that keep as much as they can, of each kind.
func TestRoomOfThings(t *testing.T) {
	t.Parallel()
	for _, made := range []string{
		`let 3 = atom 1;`, `let 3 = ref 1;`, `let 3 = block 2 v1 v0;`, `let 3 = closure f2 v1 v0 1;`, `let 3 = radd %1 %2;`, `let 3 = rfromint v0;`, `let 3 = rneg %1;`, `let 3 = str #3;`, `let 3 = substring $text 5 63;`, `let 3 = substring $text 5 1000;`,
		`let 3 = cat $t63 "";`, `let 3 = cat $middle $middle;`, `let 3 = bnew 63;`, `let 3 = bnew 65536;`, `let 3 = itext v0;`, `let 3 = itext $most;`, `let 3 = inputline 1;`, `let 3 = readfile "f";`, `let 3 = readfile "long";`,
		`try { let 3 = readfile "longer"; ret v3 } catch 3 { ret v3 } then 3;`, `try { let 3 = div 1 0; ret v3 } catch 3 { ret v3 } then 3;`, `try { let 3 = cat $text "a"; ret v3 } catch 3 { ret v3 } then 3;`,
		`let 3 = add $15 v0;`, `let 3 = add 4611686018427387903 v0;`, `let 3 = sub $most v0;`, `let 3 = neg $most;`, `let 3 = mul $half $half;`, `let 3 = div $most 3;`, `let 3 = mod $most $half;`, `let 3 = rfloor $greatest;`, `let 3 = rbits $nan;`,
		`try { let 3 = mul $most $most; ret v3 } catch 3 { ret v3 } then 3;`, `try { let 3 = add $most 1; ret v3 } catch 3 { ret v3 } then 3;`,
		`let 3 = block 0 v0 #0; let 3 = block 1 v3; let 3 = vector v3;`, `let 3 = ref v1; let 6 = set v3 v3;`, `let 3 = closure f2 1; let 6 = patch 0 v3 v3;`, `let 3 = print $t63;`, `let 3 = writefile "g" $t63;`, `let 3 = vector #0;`,
	} {
		for _, times := range []int{3, 40} {
			if strings.Contains(made, `"long"`) || strings.Contains(made, "65536") || strings.Contains(made, "$middle") {
				times = min(times, 3) // each takes 1024 steps
			}
			if said := holdRoom(t, made, again(t, times, made, `2: ret 1`)); !said && times < 5 {
				t.Errorf("%s: takes too many steps", made)
			}
		}
	}
	for _, made := range []string{`let 3 = closure f2 v1 v0;`, `let 3 = str #3;`, `let 3 = substring $text 5 63;`} {
		holdRoom(t, made, again(t, 900, made, `2: ret 1`))
	}
}

// P18.4: things of as many values as may be, one behind the other, in each step.
func TestRoomOfGreatThings(t *testing.T) {
	t.Parallel()
	for _, many := range []int{1, 80, 112, 400, 1500} {
		for _, kind := range []int{api.OpBlock, api.OpClosure} {
			for _, all := range []atoms{append(atoms{local(0)}, params(api.MaxArity)[1:]...), nil} {
				o := api.Op{Kind: kind, F: 1, Args: all}
				if all == nil {
					o.Args = make(atoms, api.MaxArity)
					for i := range o.Args {
						o.Args[i] = local(0)
					}
				}
				locals := 1
				start := api.Func{Locals: 1, Body: let(0, api.Op{Kind: api.OpAtom, Args: atoms{whole(7)}}, chain(many, func(int) (int, api.Op) { return 0, o }, ret(local(0))))}
				p := api.Program{Funs: []api.Func{start, {Params: 2, Locals: 2, Body: ret(whole(1))}}}
				if all != nil {
					locals = api.MaxArity
					start.Params, start.Locals = locals, locals
					p.Funs[0] = api.Func{Body: tail(2, make(atoms, api.MaxArity))}
					for i := range p.Funs[0].Body.Args {
						p.Funs[0].Body.Args[i] = whole(1)
					}
					p.Funs = append(p.Funs, start)
				}
				holdRoom(t, fmt.Sprint(many, " things of kind ", kind), p)
			}
		}
	}
}

// P18.4: calls in one another, with few and with many locals, all of them wanted behind the call.
func TestRoomOfCalls(t *testing.T) {
	t.Parallel()
	for _, locals := range []int{1, 2, 10, 300, 1000, 5000} {
		for _, depth := range []int{1, 5, 30, 200, 1300} {
			f := api.Func{Params: 1, Locals: locals + 3}
			wanted := ret(local(0))
			for i := 1; i < locals; i += api.MaxArity - 1 {
				wanted = let(locals, api.Op{Kind: api.OpBlock, Args: params(min(i+api.MaxArity-1, locals))[i:]}, wanted)
			}
			again := let(locals, primOf("sub", local(0), whole(1)), let(locals+1, api.Op{Kind: api.OpCall, F: 1, Args: atoms{local(locals)}}, let(locals+2, primOf("ref", local(locals+1)), wanted)))
			body := chain(locals-1, func(i int) (int, api.Op) {
				return i + 1, api.Op{Kind: api.OpAtom, Args: atoms{whole(i)}}
			}, again)
			f.Body = let(locals, primOf("le", local(0), whole(0)), api.Flow{Kind: api.FlowIf, A: local(locals), Kids: kids{ret(whole(1)), body}})
			p := api.Program{Funs: []api.Func{{Body: tail(1, atoms{whole(depth)})}, f}}
			if (locals+10)*(depth+1) < api.MaxFuel {
				holdRoom(t, fmt.Sprint(locals, " locals, ", depth, " deep"), p)
			}
		}
	}
	// few steps, and very many locals that a way wants which is not taken
	all := func(i int) (int, api.Op) { return i, api.Op{Kind: api.OpAtom, Args: atoms{whole(i)}} }
	wanted := ret(whole(1))
	for i := 0; i < 8000; i += 1000 {
		wanted = let(8000, api.Op{Kind: api.OpCall, F: 2, Args: params(i + 1000)[i:]}, wanted)
	}
	p := api.Program{Funs: []api.Func{{Locals: 1, Body: let(0, api.Op{Kind: api.OpCall, F: 1, Args: atoms{whole(2)}}, ret(whole(1)))}, {Params: 1, Locals: 8001}, {Params: 1000, Locals: 1000, Body: ret(whole(1))}}}
	p.Funs[1].Body = let(1, primOf("sub", local(0), whole(1)), let(2, primOf("lt", local(0), whole(0)), api.Flow{Kind: api.FlowIf, A: local(2), Kids: kids{ret(whole(1)), let(2, primOf("eq", local(0), whole(99)), api.Flow{Kind: api.FlowIf, A: local(2), Kids: kids{chain(8000, all, wanted), let(2, api.Op{Kind: api.OpCall, F: 1, Args: atoms{local(1)}}, ret(local(2)))}})}}))
	if !holdRoom(t, "a way that isn't taken", p) {
		t.Error("a way that isn't taken: takes too many steps")
	}
}
