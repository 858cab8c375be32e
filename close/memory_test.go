package close_test

import (
	"math"
	"math/rand"
	"reflect"
	"slices"
	"sync"
	"testing"

	"smithy/api"
	"smithy/close"
	"smithy/core"
	"smithy/flow"
)

// everything is a term with all that there is.
const everything = `(let e (ref "E") (rec (f (fn n (if (le n 0) [1 n "end"] (g (sub n 1))))) (g (fn n (switch (f n) 0: (raise n) 1: [1 e (field 1 (f n))] "none"))) (h (fn k (fn m [0 k m e g])))
  (let u (print (handle (cat (field 1 (g 3)) (inputline 0)) x (raise x)))
    (let u (writefile "g" (readfile "f"))
      (let c (ref ~123456789012345678901234567890) (let u (set c (add (get c) (if (eq u [0]) 1 2)))
        (let d ((h 1) 2)
          (handle (raise [0 e [2 (get c) #3 %2.5 !4]]) x
            (exit (add (rfloor (field 2 (field 1 x))) (switch d 0: 5 7)))))))))))`

func theTerm(t testing.TB) api.Core {
	t.Helper()
	return term(t, everything)
}

// memory is a piece of it.
type memory struct{ from, to uintptr }

// held is all memory that the lists of something lie in, with the room behind them.
func held(t *testing.T, x reflect.Value, list []memory) []memory {
	switch x.Kind() {
	case reflect.Slice:
		if !x.IsNil() && x.Len() == 0 {
			t.Error("an empty list that is not nil")
		}
		if n := uintptr(x.Cap()) * x.Type().Elem().Size(); n > 0 {
			list = append(list, memory{x.Pointer(), x.Pointer() + n})
		}
		for i := range x.Len() {
			list = held(t, x.Index(i), list)
		}
	case reflect.Struct:
		for i := range x.NumField() {
			list = held(t, x.Field(i), list)
		}
	}
	return list
}

// areShared tells whether two pieces of memory lie in one another.
func areShared(l []memory) bool {
	slices.SortFunc(l, func(a, b memory) int { return int(int64(a.from) - int64(b.from)) })
	for i := range l[1:] {
		if l[i].to > l[i+1].from {
			return true
		}
	}
	return false
}

// copied is a term that shares no memory with another.
func copied(c api.Core) api.Core {
	return deepCopy(reflect.ValueOf(c)).Interface().(api.Core)
}

func deepCopy(x reflect.Value) reflect.Value {
	out := reflect.New(x.Type()).Elem()
	out.Set(x)
	switch x.Kind() {
	case reflect.Slice:
		if !x.IsNil() {
			out.Set(reflect.MakeSlice(x.Type(), x.Len(), x.Len()))
		}
		for i := range x.Len() {
			out.Index(i).Set(deepCopy(x.Index(i)))
		}
	case reflect.Struct:
		for i := range x.NumField() {
			out.Field(i).Set(deepCopy(x.Field(i)))
		}
	}
	return out
}

// R3: what is handed in is not written; what is answered shares no memory with it, with another answer, or with itself; an empty
// list is a nil one. R4: the same term has the same flow each time.
func TestOwnMemory(t *testing.T) {
	m, terms := &writer{Rand: rand.New(rand.NewSource(7))}, &maker{Rand: rand.New(rand.NewSource(8))}
	for i := range 300 {
		c := theTerm(t)
		switch i % 3 {
		case 1:
			c, _, _ = programFlow(t, m.program())
		case 2:
			c = terms.term(4)
		}
		if core.Check(c) != api.OK {
			continue // a program at random that has no types
		}
		c = copied(c)
		kept := copied(c)
		first, second := made(t, c), made(t, c)
		if !reflect.DeepEqual(c, kept) {
			t.Fatalf("%s\nwas written", shown(kept))
		}
		if !reflect.DeepEqual(first, second) || !reflect.DeepEqual(first, made(t, kept)) {
			t.Fatalf("%s\nhas several answers", shown(c))
		}
		var all []memory
		for _, x := range []any{c, first, second} {
			all = held(t, reflect.ValueOf(x), all)
		}
		if areShared(all) {
			t.Fatalf("%s\nshares memory with its flow", shown(c))
		}
	}
}

// R3: lists that are empty, and not nil, are nil in what is answered; parts that a term has in several places are made anew in each.
func TestSharedParts(t *testing.T) {
	kids := []api.Core{whole(77), tagged(1, whole(88), fn("x", tagged(2, name("x"), whole(99))))}
	pick := api.Core{Kind: api.CoreSwitch, Tags: []int{}, Kids: []api.Core{small(0), tagged(0, kids...)}}
	empty := api.Core{Kind: api.CoreBlock, Kids: []api.Core{}, Tags: []int{}, Names: []string{}, Rows: []api.Row{}}
	nought := api.Core{Kind: api.CoreInt, Int: api.Int{Mag: []uint32{}}}
	tags := []int{1, 2}
	both := api.Core{Kind: api.CoreSwitch, Tags: tags, Kids: []api.Core{small(1), empty, nought, small(0)}}
	c := tagged(0, tagged(1, kids...), tagged(1, kids...), pick, pick, empty, nought, both, both)
	kept := copied(c)
	p := made(t, c)
	if l := held(t, reflect.ValueOf(p), nil); areShared(l) || !reflect.DeepEqual(c, kept) {
		t.Error("parts are shared, or were written")
	}
	alike(t, c, p, worlds()[0], 100, 1000)
	for _, f := range p.Funs {
		if f.Name != "" {
			t.Errorf("a name that nothing is told of: %s", f.Name)
		}
	}
}

// R4: calls from several hands at the same time.
func TestManyHands(t *testing.T) {
	want := made(t, theTerm(t))
	if got := told(alike(t, theTerm(t), want, worlds()[0], 500, 1000)); got != "endone\n[g: data] =7" {
		t.Error(got)
	}
	var hands sync.WaitGroup
	for range 8 {
		c := theTerm(t)
		hands.Go(func() {
			for range 50 {
				if p, e := close.Flow(c); e != api.OK || !reflect.DeepEqual(p, want) {
					t.Error("another answer", e)
				}
			}
		})
	}
	hands.Wait()
}

// odd holds any term against the promise: it has flow that may be, or is just ErrCore, if it may not be or is not plain.
func odd(t *testing.T, c api.Core) bool {
	t.Helper()
	if core.Check(c) == api.OK && core.Plain(c) {
		p := made(t, c)
		if _, e := flow.Run(p, worlds()[0], 200); e != api.OK {
			t.Errorf("%+v: %v", c, e)
		}
		return true
	}
	if p, e := close.Flow(c); e != api.ErrCore || !reflect.DeepEqual(p, api.Program{}) {
		t.Errorf("%+v: %v, %+v", c, e, p)
	}
	return false
}

// R1: nothing of what can be handed in lets a call panic.
func TestRawTerms(t *testing.T) {
	may, not := 0, 0
	count := func(c api.Core) {
		for _, c := range []api.Core{c, fn("x", c), tagged(0, c), node(api.CoreLet, "x", c, name("x"))} {
			if odd(t, c) {
				may++
			} else {
				not++
			}
		}
	}
	for kind := -1; kind < 21; kind++ {
		for _, n := range []int{math.MinInt, -1, 0, 1, 7, 8, api.MaxArity, 1 << 30, math.MaxInt} {
			for _, text := range []string{"", "x", "neg", "add"} {
				c := api.Core{Kind: kind, Name: text, N: n, Tags: []int{n}, Names: []string{text}, Int: api.Int{Neg: n < 0, Mag: []uint32{uint32(n)}}}
				count(c)
				for many := range 4 {
					c.Kids = slices.Repeat([]api.Core{fn("x", small(0))}, many)
					count(c)
					c.Rows = []api.Row{{E: small(0)}}
					count(c)
					c.Rows = nil
				}
			}
		}
	}
	for kind := api.CoreVar; kind <= api.CoreCase; kind++ {
		count(api.Core{Kind: kind})
	}
	if may < 500 || not < 5000 {
		t.Errorf("%d may be, %d may not", may, not)
	}
}

// R1: terms that hold themselves, or that are told without end, are refused.
func TestRings(t *testing.T) {
	wide := small(0)
	for range 100 {
		wide = tagged(0, wide, wide)
	}
	rings := []api.Core{wide}
	for kind := range 20 {
		for many := 1; many < 4; many++ {
			row := make([]api.Core, many)
			for i := range row {
				row[i] = api.Core{Kind: kind, Name: "x", Names: []string{"f", "g"}[:many-1], Tags: []int{1, 2}[:max(many-2, 0)], Kids: row}
			}
			rings = append(rings, row[0])
		}
	}
	for _, c := range rings {
		if odd(t, c) {
			t.Errorf("a ring of kind %d is not refused", c.Kind)
		}
	}
}
