package flow_test

import (
	"maps"
	"math"
	"reflect"
	"runtime"
	"slices"
	"strconv"
	"strings"
	"sync"
	"testing"

	"smithy/api"
	"smithy/flow"
)

// everything is a program with all that there is.
func everything(t testing.TB) api.Program {
	p := program(t,
		`let 0 = closure f1 ~123456789012345678901234567890 #0 "end"; let 1 = patch 1 v0 v0; let 2 = apply v0 2; let 2 = print v2;
		 try { let 3 = inputline 0; let 3 = print v3; tail f2 v0 } catch 3 { let 4 = field 1 v3; switch v4 1 { ret "no" } 2 { let 5 = field 0 v4; let 5 = itext v5; ret v5 } { raise v3 } } then 6;
		 let 7 = readfile "f"; let 7 = writefile "g" v7; let 7 = print v6; if #1 { let 8 = rfloor %2.5; let 8 = add v8 3; let 8 = exit v8; ret 1 } { ret !3 }`,
		`2: let 2 = le v1 0; if v2 { let 3 = capture 2 v0; ret v3 } { let 3 = sub v1 1; let 4 = capture 1 v0; go v4 v3 }`,
		`1: let 1 = capture 0 v0; let 1 = add v1 1; let 2 = ref "E"; let 1 = block 2 v1 #3 %2.5; let 1 = block 0 v2 v1; let 3 = call f3; let 1 = atom v1; raise v1`,
		`ret 1`)
	if e := flow.Check(p); e != api.OK {
		t.Fatal(e)
	}
	return p
}

const allOfIt = "endone\n; file g data; ~123456789012345678901234567889; exited 5"

func TestEverything(t *testing.T) {
	if got := told(run(t, everything(t), 500)); got != allOfIt {
		t.Error(got)
	}
	kinds := map[[2]int]int{}
	for _, f := range everything(t).Funs {
		countKinds(&f.Body, kinds)
	}
	if len(kinds) != 8+9 {
		t.Errorf("%v", kinds)
	}
}

// R3: what is handed in is not written; what is answered shares no memory with it, or with another answer.
func TestOwnMemory(t *testing.T) {
	p, kept, w := everything(t), everything(t), theWorld()
	first, _ := flow.Run(p, w, 500)
	for fuel := range 100 {
		flow.Run(p, w, fuel)
	}
	second, _ := flow.Run(p, w, 500)
	if !reflect.DeepEqual(p, kept) || !reflect.DeepEqual(w, theWorld()) {
		t.Error("what was handed in was written")
	}
	if !reflect.DeepEqual(first, second) {
		t.Errorf("%+v and then %+v", first, second)
	}
	for i := range second.Trace {
		second.Trace[i] = api.Event{}
	}
	for i := range w.Files {
		w.Files[i] = api.File{}
	}
	third, _ := flow.Run(p, theWorld(), 500)
	if !reflect.DeepEqual(first, third) || told(first) != allOfIt {
		t.Errorf("%+v and then %+v", first, third)
	}
	// cells, bytes, closures and the built-in exceptions of one run are not another one's
	p = program(t, `let 0 = get !2; let 0 = print v0; let 0 = set !2 "changed"; let 0 = closure f1 "a"; let 1 = capture 0 v0; let 1 = print v1; let 1 = patch 0 v0 "b"; ret 1`, `2: ret 1`)
	for range 3 {
		if got := told(run(t, p, 50)); got != "Diva; exited 0" {
			t.Error(got)
		}
	}
}

// R3: an empty list is a nil one; R2: with an error the outcome is the zero one.
func TestEmpty(t *testing.T) {
	for _, text := range []string{`ret 1`, `let 0 = print ""; ret 1`, `let 0 = exit 3; ret 1`, `go 1 2`, `let 0 = eprint ""; ret 1`, `tail f0`} {
		if out, e := flow.Run(program(t, text), api.World{Files: []api.File{}}, 100); e != api.OK || out.Trace != nil {
			t.Errorf("%s: %#v", text, out.Trace)
		}
	}
	for fuel, want := range map[int]api.Errno{api.MaxFuel + 1: api.ErrArg, -1: api.ErrArg} {
		if out, e := flow.Run(program(t, `let 0 = print "a"; ret 1`), theWorld(), fuel); e != want || !reflect.DeepEqual(out, api.Outcome{}) {
			t.Errorf("%+v, %v", out, e)
		}
	}
	if out, e := flow.Run(api.Program{}, theWorld(), 10); e != api.ErrFlow || !reflect.DeepEqual(out, api.Outcome{}) {
		t.Errorf("%+v, %v", out, e)
	}
}

// R4: calls from several hands at the same time.
func TestManyHands(t *testing.T) {
	want := run(t, everything(t), 500)
	var hands sync.WaitGroup
	for range 8 {
		p := everything(t)
		hands.Go(func() {
			for range 30 {
				if out, e := flow.Run(p, theWorld(), 500); e != api.OK || !reflect.DeepEqual(out, want) {
					t.Errorf("%+v, %v", out, e)
				}
				if flow.Check(p) != api.OK || !maps.Equal(flow.Prims(), arities()) {
					t.Error("another answer")
				}
			}
		})
	}
	hands.Wait()
}

// R1: programs whose nodes hold themselves, or share their parts without end, are refused.
func TestRings(t *testing.T) {
	rings := map[string]api.Flow{"nothing": {}}
	op := of(api.Op{Kind: api.OpAtom}, 1)
	for kind := range 12 {
		for many := 1; many < 4; many++ {
			row := make(kids, many)
			for i := range row {
				row[i] = api.Flow{Kind: kind, A: whole(1), Args: atoms{whole(1)}, Op: op, Tags: []int{1, 2}[:many-1], Kids: row}
			}
			rings[strconv.Itoa(many)+" of kind "+strconv.Itoa(kind)] = row[0]
		}
	}
	shared := ret(whole(1))
	for range 100 {
		shared = api.Flow{Kind: api.FlowIf, A: whole(1), Kids: kids{shared, shared}}
	}
	rings["shared nodes"] = shared
	tries := ret(whole(1))
	for range 100 {
		tries = api.Flow{Kind: api.FlowTry, Kids: kids{tries, tries, tries}}
	}
	rings["shared tries"] = tries
	for what, f := range rings {
		holdMay(t, what, one(5, f), false)
		p := begins(ret(whole(1)))
		p.Funs[4].Body = f
		holdMay(t, what+" in another function", p, false)
	}
	// what is shared, but not too great, may be
	shared = ret(whole(1))
	for range 16 {
		shared = api.Flow{Kind: api.FlowIf, A: small(1), Kids: kids{shared, shared}}
	}
	holdMay(t, "nodes that are shared", one(0, shared), true)
}

// R1: arguments of any form.
func TestOdd(t *testing.T) {
	ends := []int{math.MinInt, -1, 0, 1, 7, 1 << 30, math.MaxInt}
	for _, n := range ends {
		for kind := -1; kind < 12; kind++ {
			a := api.Atom{Kind: kind, V: n, Int: api.Int{Neg: true, Mag: []uint32{0}}, Bits: math.MaxUint64}
			o := api.Op{Kind: kind, Name: "x", F: n, N: n, Args: atoms{a, a}}
			for _, l := range []kids{nil, {}, {{}}, {{Kind: kind, V: n}, {Kind: kind}}, {ret(a), ret(a), ret(a)}} {
				f := api.Flow{Kind: kind, V: n, W: n, F: n, A: a, Args: atoms{a}, Op: o, Tags: []int{n, n}, Kids: l}
				for _, p := range []api.Program{{Funs: []api.Func{{Params: n, Locals: n, Body: f}}}, {Funs: []api.Func{{Locals: 5, Body: f}, {Params: n, Locals: 9}}}, one(n, f)} {
					want := verdict(p)
					holdMay(t, "an odd program", p, want)
					if out, e := flow.Run(p, api.World{Files: []api.File{{}, {}}}, n); e == api.OK && !want || e != api.OK && !reflect.DeepEqual(out, api.Outcome{}) {
						t.Errorf("%+v: %+v, %v", p, out, e)
					}
				}
			}
		}
	}
}

// Programs that go on for ever, and such as call deeper and deeper, in each way that there is.
func TestForEver(t *testing.T) {
	for _, p := range []funs{
		{`tail f0`}, {`let 0 = call f0; ret 1`}, {`let 0 = call f0; tail f0`}, {`try { tail f0 } catch 0 { ret 1 } then 1; ret 1`}, {`try { let 0 = call f0; ret 1 } catch 0 { raise v0 } then 1; ret 1`}, {`try { raise 1 } catch 0 { tail f0 } then 1; ret 1`}, {`try { ret 1 } catch 0 { ret 1 } then 1; tail f0`}, {`try { raise 1 } catch 0 { let 0 = call f0; ret 1 } then 1; ret 1`},
		{`let 0 = closure f1; go v0 1`, `2: go v0 v1`}, {`let 0 = closure f1; go v0 1`, `2: let 2 = apply v0 v1; ret 1`}, {`let 0 = closure f1; go v0 1`, `2: try { go v0 v1 } catch 2 { ret 1 } then 2; ret 1`}, {`let 0 = closure f1; go v0 1`, `2: let 2 = closure f1 v0 v1; go v2 v2`}, {`let 0 = closure f1 1; go v0 1`, `2: let 2 = closure f1 1; let 3 = patch 0 v2 v0; let 3 = patch 0 v0 v2; go v2 v2`},
		{`tail f1 #0`, `1: let 1 = block 0 v0 v0; tail f1 v1`}, {`tail f1 #0`, `1: let 1 = block 0 v0 v0; let 2 = call f1 v1; ret 1`}, {`tail f1 #0`, `1: let 1 = ref v0; tail f1 v1`}, {`tail f1 !1`, `1: let 1 = set v0 v0; tail f1 v0`}, {`tail f1 "a"`, `1: let 1 = cat v0 "a"; tail f1 v1`}, {`tail f1 2`, `1: let 1 = add v0 v0; tail f1 v1`}, {`tail f1`, `tail f2`, `tail f1`}, {`tail f1 #1`, `1: if v0 { switch v0 1 { tail f1 v0 } { ret 1 } } { ret 1 }`},
		{`let 199999 = atom 1; tail f0`}, {`let 199999 = call f0; ret 1`}, {`let 199999 = atom 1; let 0 = call f0; ret 1`}, {`let 199999 = atom 1; try { tail f0 } catch 0 { ret 1 } then 0; ret 1`},
	} {
		for _, fuel := range []int{api.MaxFuel - 1, api.MaxFuel} {
			if out := runIn(t, program(t, p...), smallWorld(), fuel); told(out) != "running" {
				t.Errorf("%s: %s", p, told(out))
			}
		}
	}
	deep := program(t, `try { tail f1 1000 } catch 0 { ret v0 } then 1; let 1 = print v1; ret 1`, `1: let 1 = le v0 0; if v1 { raise "end" } { try { let 2 = sub v0 1; tail f1 v2 } catch 3 { raise v3 } then 3; ret 1 }`)
	for fuel, want := range map[int]string{2 + 1000*5 + 3 + 1000 + 3 - 1: "end; running", 2 + 1000*5 + 3 + 1000 + 3: "end; exited 0"} {
		if got := told(runIn(t, deep, smallWorld(), fuel)); got != want {
			t.Errorf("%d: %s, not %s", fuel, got, want)
		}
	}
}

// Locals that are never set, and functions with many, take no room in each call.
func TestRoom(t *testing.T) {
	var before, after runtime.MemStats
	runtime.ReadMemStats(&before)
	p := program(t, `let 199999 = call f0; ret 1`)
	if p.Funs[0].Locals != api.MaxCode {
		t.Fatal(p.Funs[0].Locals)
	}
	if got := told(runIn(t, p, smallWorld(), api.MaxFuel)); got != "running" {
		t.Error(got)
	}
	many := slices.Repeat([]api.Func{{Params: api.MaxArity, Locals: api.MaxCode, Body: ret(local(3))}}, api.MaxCode/2)
	many[0] = api.Func{Locals: api.MaxCode, Body: ret(whole(1))}
	if got := told(runIn(t, api.Program{Funs: many}, smallWorld(), 5)); got != "exited 0" {
		t.Error(got)
	}
	runtime.ReadMemStats(&after)
	if got := after.TotalAlloc - before.TotalAlloc; got > 1<<28 {
		t.Errorf("%d bytes", got)
	}
}

// What is as deep, as great and as long as may be is done, too.
func TestGreat(t *testing.T) {
	print := api.Op{Kind: api.OpPrim, Name: "print", Args: atoms{{Kind: api.AtomText, Text: "a"}}}
	deep := let(0, print, ret(whole(1)))
	for i := range api.MaxTerm - 2 {
		switch i % 4 {
		case 0:
			deep = let(1, of(api.Op{Kind: api.OpAtom}, 1), deep)
		case 1:
			deep = api.Flow{Kind: api.FlowTry, V: 2, W: 3, Kids: kids{deep, {Kind: api.FlowRaise, A: local(2)}, ret(local(3))}}
		case 2:
			deep = api.Flow{Kind: api.FlowIf, A: small(0), Kids: kids{ret(whole(1)), deep}}
		case 3:
			deep = api.Flow{Kind: api.FlowSwitch, A: small(7), Tags: []int{7}, Kids: kids{deep, ret(whole(1))}}
		}
	}
	if got := told(runIn(t, one(4, deep), smallWorld(), api.MaxFuel)); got != "a; exited 0" {
		t.Error(got)
	}
	var b strings.Builder
	for i := range 9000 {
		b.WriteString(`let ` + strconv.Itoa(i+1) + ` = add v` + strconv.Itoa(i) + ` 1; `)
	}
	long := program(t, `let 0 = atom 0; `+b.String()+`let 0 = itext v9000; let 0 = print v0; ret 1`)
	if got := told(runIn(t, long, smallWorld(), api.MaxFuel)); got != "9000; exited 0" {
		t.Error(got)
	}
	// each call has as many parameters as there may be
	all := make(atoms, api.MaxArity)
	for i := range all {
		all[i] = local((i + 1) % len(all))
	}
	turn := api.Program{Funs: []api.Func{{Body: tail(1, slices.Repeat(atoms{whole(1)}, len(all)))}, {Params: len(all), Locals: len(all), Body: tail(1, all)}}}
	if got := told(runIn(t, turn, smallWorld(), api.MaxFuel)); got != "running" {
		t.Error(got)
	}
	turn.Funs[1].Body = let(0, api.Op{Kind: api.OpCall, F: 1, Args: all}, ret(whole(1)))
	if got := told(runIn(t, turn, smallWorld(), api.MaxFuel)); got != "running" {
		t.Error(got)
	}
}
