package opt_test

import (
	"math/rand"
	"reflect"
	"slices"
	"sync"
	"testing"

	"smithy/api"
	"smithy/opt"
)

// everything is a program with all that there is.
func everything(t testing.TB) api.Program {
	return program(t,
		`let 0 = closure f1 ~123456789012345678901234567890 #0 "end"; let 1 = patch 1 v0 v0; let 2 = apply v0 2; let 2 = print v2;
		 try { let 3 = inputline 0; let 3 = print v3; tail f2 v0 } catch 3 { let 4 = field 1 v3; switch v4 1 { ret "no" } 2 { let 5 = field 0 v4; let 5 = itext v5; ret v5 } { raise v3 } } then 6;
		 let 7 = readfile "f"; let 7 = writefile "g" v7; let 7 = print v6; if #1 { let 8 = rfloor %2.5; let 8 = add v8 3; let 8 = exit v8; ret 1 } { ret !3 }`,
		`2: let 2 = le v1 0; if v2 { let 3 = capture 2 v0; ret v3 } { let 3 = sub v1 1; let 4 = capture 1 v0; go v4 v3 }`,
		`1: let 1 = capture 0 v0; let 1 = add v1 1; let 2 = ref "E"; let 1 = block 2 v1 #3 %2.5; let 1 = block 0 v2 v1; let 3 = call f3; let 1 = atom v1; raise v1`,
		`ret 1`)
}

// memory is a piece of it.
type memory struct{ from, to uintptr }

// held is all memory that the lists of something lie in, with the room behind them.
func held(t *testing.T, x reflect.Value, list []memory) []memory {
	switch x.Kind() {
	case reflect.Slice:
		if !x.IsNil() && x.Len() == 0 {
			t.Error("an empty list that is not nil")
		}
		if n := uintptr(x.Cap()) * x.Type().Elem().Size(); n > 0 {
			list = append(list, memory{x.Pointer(), x.Pointer() + n})
		}
		for i := range x.Len() {
			list = held(t, x.Index(i), list)
		}
	case reflect.Struct:
		for i := range x.NumField() {
			list = held(t, x.Field(i), list)
		}
	}
	return list
}

// areShared tells whether two pieces of memory lie in one another.
func areShared(l []memory) bool {
	slices.SortFunc(l, func(a, b memory) int { return int(int64(a.from) - int64(b.from)) })
	for i := range l[1:] {
		if l[i].to > l[i+1].from {
			return true
		}
	}
	return false
}

// R3: what is handed in is not written; what is answered shares no memory with it, with another answer, or with itself; an empty
// list is a nil one. R4: the same program has the same answer each time, in whatever order what is known is gone through.
func TestOwnMemory(t *testing.T) {
	w, m := &writer{Rand: rand.New(rand.NewSource(7))}, &maker{Rand: rand.New(rand.NewSource(8)), wrong: 200}
	for i := range 400 {
		p := everything(t)
		switch i % 4 {
		case 1:
			p, _ = programFlow(t, w.program())
		case 2, 3:
			p = m.program()
		}
		if len(p.Funs) == 0 {
			continue // a program at random that has no types
		}
		p = copied(p)
		kept := copied(p)
		first, second := made(t, p), made(t, p)
		if !reflect.DeepEqual(p, kept) {
			t.Fatalf("%s\nwas written", shown(kept))
		}
		for range 4 {
			if third := made(t, kept); !reflect.DeepEqual(first, second) || !reflect.DeepEqual(first, third) {
				t.Fatalf("%s\nhas several answers", shown(p))
			}
		}
		var all []memory
		for _, x := range []api.Program{p, first, second} {
			all = held(t, reflect.ValueOf(x), all)
		}
		if areShared(all) {
			t.Fatalf("%s\nshares memory with what is made of it", shown(p))
		}
	}
}

// R3: lists that are empty, and not nil, are nil in what is answered; parts that a program has in several places are made anew in
// each; a name, of which the chapters tell nothing, is none.
func TestSharedParts(t *testing.T) {
	great := api.Atom{Kind: api.AtomInt, Int: api.Int{Mag: []uint32{1, 2, 3}}}
	nought := api.Atom{Kind: api.AtomInt, Int: api.Int{Mag: []uint32{}}}
	args := atoms{great, great, nought}
	tags := []int{1, 2}
	leaf := kids{let(2, api.Op{Kind: api.OpBlock, Args: args}, let(3, prims("ref", local(2)), raise(local(3))))}
	pick := api.Flow{Kind: api.FlowSwitch, A: local(0), Tags: tags, Kids: kids{leaf[0], leaf[0], {Kind: api.FlowSwitch, A: local(0), Tags: tags, Kids: kids{leaf[0], leaf[0], leaf[0]}}}}
	empty := api.Flow{Kind: api.FlowLet, V: 1, Op: api.Op{Kind: api.OpBlock, Args: atoms{}}, Args: atoms{}, Tags: []int{}, Kids: kids{hidden(0, small(1), pick)}}
	twice := let(1, api.Op{Kind: api.OpCall, F: 1, Args: args}, let(1, api.Op{Kind: api.OpCall, F: 1, Args: args}, let(4, api.Op{Kind: api.OpPrim, Name: "print", Args: atoms{local(1)}}, empty)))
	f := api.Func{Name: "f", Params: 3, Locals: 9, Body: let(3, api.Op{Kind: api.OpBlock, Args: atoms{local(0), local(1), local(0), great}}, let(4, prims("ref", local(3)), let(5, prims("get", local(4)), let(6, api.Op{Kind: api.OpField, N: 2, Args: atoms{local(5)}}, let(6, prims("itext", local(6)), ret(local(6)))))))}
	p := api.Program{Funs: []api.Func{{Name: "main", Locals: 9, Body: twice}, f}}
	kept := copied(p)
	q := made(t, p)
	if !reflect.DeepEqual(p, kept) {
		t.Error("it was written")
	}
	var all []memory
	for range 3 {
		all = held(t, reflect.ValueOf(q), all)
		q = made(t, q)
	}
	if areShared(all) {
		t.Error("parts are shared")
	}
	alike(t, p, made(t, p), worlds()[0], 60, 100)
	for _, f := range q.Funs {
		if f.Name != "" {
			t.Errorf("a name: %s", f.Name)
		}
	}
}

// R4: calls from several hands at the same time.
func TestManyHands(t *testing.T) {
	want := made(t, everything(t))
	if got := told(alike(t, everything(t), want, worlds()[0], 500, 1000)); got != "endone\n[g: data]~123456789012345678901234567889 =5" {
		t.Error(got)
	}
	var all sync.WaitGroup
	for range hands {
		p := everything(t)
		all.Go(func() {
			for range 50 {
				if q, e := opt.Opt(p); e != api.OK || !reflect.DeepEqual(q, want) {
					t.Error("another answer", e)
				}
			}
		})
	}
	all.Wait()
}
