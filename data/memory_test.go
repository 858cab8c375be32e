package data_test

import (
	"math/rand"
	"reflect"
	"slices"
	"strconv"
	"sync"
	"testing"

	"smithy/api"
	"smithy/data"
	"smithy/flow"
)

// everything is a program with all that there is.
func everything(t testing.TB) api.Program {
	return program(t,
		`let 0 = closure f1 ~123456789012345678901234567890 #0 "end"; let 1 = patch 1 v0 v0; let 2 = apply v0 2; let 2 = print v2;
		 try { let 3 = inputline 0; let 3 = print v3; tail f2 v0 } catch 3 { let 4 = field 1 v3; switch v4 1 { ret "no" } 2 { let 5 = field 0 v4; let 5 = itext v5; ret v5 } { raise v3 } } then 6;
		 let 7 = readfile "f"; let 7 = writefile "g" v7; let 7 = print v6; if #1 { let 8 = rfloor %2.5; let 8 = add v8 3; let 8 = exit v8; ret 1 } { ret !3 }`,
		`2: let 2 = le v1 0; if v2 { let 3 = capture 2 v0; ret v3 } { let 3 = sub v1 1; let 4 = capture 1 v0; go v4 v3 }`,
		`1: let 1 = capture 0 v0; let 1 = add v1 1; let 2 = ref "E"; let 1 = block 2 v1 #3 %2.5; let 1 = block 0 v2 v1; let 3 = call f3; let 1 = atom v1; raise v1`,
		`ret 1`)
}

// piece is one of memory.
type piece struct{ from, to uintptr }

// held is all memory that the lists of something lie in, with the room behind them.
func held(t *testing.T, x reflect.Value, list []piece) []piece {
	switch x.Kind() {
	case reflect.Slice:
		if !x.IsNil() && x.Len() == 0 {
			t.Error("an empty list that is not nil")
		}
		if n := uintptr(x.Cap()) * x.Type().Elem().Size(); n > 0 {
			list = append(list, piece{x.Pointer(), x.Pointer() + n})
		}
		for i := range x.Len() {
			list = held(t, x.Index(i), list)
		}
	case reflect.Struct:
		for i := range x.NumField() {
			list = held(t, x.Field(i), list)
		}
	}
	return list
}

// areShared tells whether two pieces of memory lie in one another.
func areShared(l []piece) bool {
	slices.SortFunc(l, func(a, b piece) int { return int(int64(a.from) - int64(b.from)) })
	for i := range l[1:] {
		if l[i].to > l[i+1].from {
			return true
		}
	}
	return false
}

// R3: what is handed in is not written; what is answered shares no memory with it, with another answer, or with itself; an empty list is a
// nil one. R4: the same program has the same answer each time.
func TestOwnMemory(t *testing.T) {
	m := &maker{Rand: rand.New(rand.NewSource(8)), wrong: 200}
	all := []api.Program{everything(t), switches([]int{5, 1 << 20, 1 << 29, 7, 1 << 25}, false), {Funs: []api.Func{{Body: tail(1, params(0))}, {Body: ret(whole(1))}}}}
	l, _ := mixed(60)
	l[5], l[12] = whole(1), whole(2)
	all = append(all, api.Program{Funs: []api.Func{{Body: tail(1, slices.Repeat(atoms{whole(3)}, 60))}, {Params: 60, Locals: 60, Body: ret(whole(1))}}})
	for range 40 {
		all = append(all, m.program())
	}
	for _, p := range all {
		p = copied(p)
		kept := copied(p)
		first, second := made(t, p), made(t, p)
		if !reflect.DeepEqual(p, kept) {
			t.Fatalf("%s\nwas written", shown(kept))
		}
		if !reflect.DeepEqual(first, second) {
			t.Fatalf("%s\nhas two answers", shown(p))
		}
		pieces := held(t, reflect.ValueOf(p), nil)
		pieces = held(t, reflect.ValueOf(first), pieces)
		if pieces = held(t, reflect.ValueOf(second), pieces); areShared(pieces) {
			t.Fatalf("%s\nshares memory", shown(p))
		}
	}
}

// R4: calls from several hands at the same time.
func TestManyHands(t *testing.T) {
	want := made(t, everything(t))
	var hands sync.WaitGroup
	for range 8 {
		p := everything(t)
		hands.Go(func() {
			for range 20 {
				if got, e := data.Program(p); e != api.OK || !reflect.DeepEqual(got, want) {
					t.Error("another answer", e)
				}
			}
		})
	}
	hands.Wait()
}

// holdMay holds that a program is refused just where flow.Check refuses it, and then nothing else is answered.
func holdMay(t *testing.T, what string, p api.Program) bool {
	t.Helper()
	may := flow.Check(p)
	q, e := data.Program(p)
	if e != may || may != api.OK && (q.Funs != nil || q.Data != nil || q.Zero != 0) {
		t.Errorf("%s: %v, wanted %v", what, e, may)
	}
	return may == api.OK
}

// P18.1: programs that may be, changed at random, so that most of them may not.
func TestChanged(t *testing.T) {
	t.Parallel()
	m := &maker{Rand: rand.New(rand.NewSource(3))}
	may, mayNot := 0, 0
	for i := range 3000 {
		p := copied(m.program())
		for range 1 + i%3 {
			m.change(reflect.ValueOf(&p).Elem())
		}
		if holdMay(t, "changed", p) {
			may++
			if !data.Thrown(p) {
				t.Error("something else is thrown")
			}
		} else {
			mayNot++
		}
	}
	if may < 300 || mayNot < 300 {
		t.Error(may, mayNot)
	}
}

// P18.1: programs that may not be, by hand.
func TestMayNot(t *testing.T) {
	holdMay(t, "nothing", api.Program{})
	holdMay(t, "no functions", api.Program{Funs: []api.Func{}})
	holdMay(t, "a parameter", program(t, `1: ret 1`))
	holdMay(t, "a local that is not set", api.Program{Funs: []api.Func{{Locals: 1, Body: ret(local(0))}}})
	holdMay(t, "a great tag", one(1, let(0, api.Op{Kind: api.OpBlock, N: 1 << 30}, ret(whole(1)))))
	holdMay(t, "a tag below 0", one(1, let(0, api.Op{Kind: api.OpBlock, N: -1}, ret(whole(1)))))
	holdMay(t, "no primitive", program(t, `let 0 = none 1; ret 1`))
	holdMay(t, "an integer that doesn't stand so", one(1, ret(api.Atom{Kind: api.AtomInt, Int: api.Int{Mag: []uint32{1, 0}}})))
	// ErrFlow is told ahead of ErrLong
	p := switches(rowOf(2, 65535, 1), false)
	p.Funs = append(p.Funs, api.Func{Body: ret(local(0))})
	holdMay(t, "too many tags, too", p)
}

// R1: programs whose nodes hold themselves, or share their parts without end, are refused.
func TestRings(t *testing.T) {
	rings := map[string]api.Flow{"nothing": {}}
	op := api.Op{Kind: api.OpAtom, Args: atoms{whole(1)}}
	for kind := range 12 {
		for many := 1; many < 4; many++ {
			row := make(kids, many)
			for i := range row {
				row[i] = api.Flow{Kind: kind, A: whole(1), Args: atoms{whole(1)}, Op: op, Tags: []int{1, 2}[:many-1], Kids: row}
			}
			rings[strconv.Itoa(many)+" of kind "+strconv.Itoa(kind)] = row[0]
		}
	}
	shared := ret(whole(1))
	for range 100 {
		shared = api.Flow{Kind: api.FlowIf, A: whole(1), Kids: kids{shared, shared}}
	}
	rings["shared nodes"] = shared
	tries := ret(whole(1))
	for range 100 {
		tries = api.Flow{Kind: api.FlowTry, Kids: kids{tries, tries, tries}}
	}
	rings["shared tries"] = tries
	for what, f := range rings {
		if holdMay(t, what, one(5, f)) {
			t.Error(what, "may be")
		}
		holdMay(t, what+" in another function", api.Program{Funs: []api.Func{{Body: ret(whole(1))}, {Locals: 5, Body: f}}})
	}
	// what is shared, but not too great, may be
	shared = ret(whole(1))
	for range 16 {
		shared = api.Flow{Kind: api.FlowIf, A: small(1), Kids: kids{shared, shared}}
	}
	holdMay(t, "nodes that are shared", one(0, shared))
}

// copied is a program that shares nothing with another.
func copied(p api.Program) api.Program {
	p.Funs = slices.Clone(p.Funs)
	for i := range p.Funs {
		p.Funs[i].Body = copiedFlow(p.Funs[i].Body)
	}
	return p
}

func copiedFlow(f api.Flow) api.Flow {
	f.A = copiedAtoms(atoms{f.A})[0]
	f.Args, f.Op.Args, f.Tags, f.Kids = copiedAtoms(f.Args), copiedAtoms(f.Op.Args), slices.Clone(f.Tags), slices.Clone(f.Kids)
	for i := range f.Kids {
		f.Kids[i] = copiedFlow(f.Kids[i])
	}
	return f
}

func copiedAtoms(l atoms) atoms {
	l = slices.Clone(l)
	for i := range l {
		l[i].Int.Mag = slices.Clone(l[i].Int.Mag)
	}
	return l
}

// change writes something else into some part of a program.
func (m *maker) change(x reflect.Value) {
	switch x.Kind() {
	case reflect.Slice:
		switch {
		case x.Len() == 0:
			if m.Intn(3) == 0 {
				x.Set(reflect.MakeSlice(x.Type(), 1, 1))
			}
		case m.Intn(25) == 0:
			x.Set(x.Slice(1, x.Len()))
		case m.Intn(25) == 0:
			x.Set(reflect.AppendSlice(reflect.MakeSlice(x.Type(), 0, 1), x))
			x.Set(reflect.Append(x, x.Index(m.Intn(x.Len()))))
		case m.Intn(25) == 0:
			x.Index(m.Intn(x.Len())).Set(x.Index(m.Intn(x.Len())))
		default:
			m.change(x.Index(m.Intn(x.Len())))
		}
	case reflect.Struct:
		for range 4 { // most fields are empty ones
			if f := x.Field(m.Intn(x.NumField())); (f.Kind() == reflect.Slice || f.Kind() == reflect.Struct) && !f.IsZero() || m.Intn(8) == 0 {
				m.change(f)
				return
			}
		}
	case reflect.Int:
		x.SetInt(int64(m.Intn(14) - 1))
	case reflect.Bool:
		x.SetBool(!x.Bool())
	case reflect.Uint32:
		x.SetUint(uint64(m.Intn(2)))
	case reflect.String:
		x.SetString(m.one("", "add", "print", "substring", "neg", "exit", "eq"))
	}
}
