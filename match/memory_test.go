package match_test

import (
	"math"
	"math/rand"
	"reflect"
	"slices"
	"sync"
	"testing"

	"smithy/api"
	"smithy/core"
	"smithy/match"
)

// fullProgram has all kinds of patterns.
const fullProgram = `exception E of int exception F datatype t = A | B of {x : t, y : int} | C
fun f (A, 12345678901234567890, _) = "a" | f (B {y = 1, x = z as B w}, _, "s") = Int.toString (#y w) | f (_, n, s) = s
fun g [] #"c" true = 1 | g (x :: _) _ _ = x | g l #"d" b = (case l of [] => 2 | _ => 3)
val _ = print (f (B {x = B {x = C, y = 7}, y = 1}, 2, "s") ^ f (A, 12345678901234567890, "") ^ f (C, 1, inputLine ()))
val _ = print (Int.toString (g [] #"c" true + g [5] #"e" false + g [] #"d" false) handle Match => "no")
val k = fn E 1 => 1 | E n => n | F => 2 | Div => 3`

// theTerm is the term of a program with all kinds of patterns; it has warnings.
func theTerm(t testing.TB) api.Core {
	t.Helper()
	return termOf(t, fullProgram)
}

func TestFullProgram(t *testing.T) {
	c := theTerm(t)
	s, list := switched(t, c)
	if got := told(alike(t, c, s, worlds()[0], 2000, api.MaxFuel)); got != "7aone\n8" {
		t.Error(got)
	}
	if want := []api.Warning{{Case: 1, Row: -1}, {Case: 3, Row: -1}, {Case: 4, Row: -1}}; !reflect.DeepEqual(list, want) {
		t.Errorf("%v", list)
	}
}

// memory is a piece of it.
type memory struct{ from, to uintptr }

// held is all memory that the lists of something lie in, with the room behind them.
func held(t *testing.T, x reflect.Value, list []memory) []memory {
	switch x.Kind() {
	case reflect.Slice:
		if !x.IsNil() && x.Len() == 0 {
			t.Error("an empty list that is not nil")
		}
		if n := uintptr(x.Cap()) * x.Type().Elem().Size(); n > 0 {
			list = append(list, memory{x.Pointer(), x.Pointer() + n})
		}
		for i := range x.Len() {
			list = held(t, x.Index(i), list)
		}
	case reflect.Struct:
		for i := range x.NumField() {
			list = held(t, x.Field(i), list)
		}
	}
	return list
}

// areShared tells whether two pieces of memory lie in one another.
func areShared(l []memory) bool {
	slices.SortFunc(l, func(a, b memory) int { return int(int64(a.from) - int64(b.from)) })
	for i := range l[1:] {
		if l[i].to > l[i+1].from {
			return true
		}
	}
	return false
}

// copied is a term that shares no memory with another.
func copied(c api.Core) api.Core {
	return deepCopy(reflect.ValueOf(c)).Interface().(api.Core)
}

func deepCopy(x reflect.Value) reflect.Value {
	out := reflect.New(x.Type()).Elem()
	out.Set(x)
	switch x.Kind() {
	case reflect.Slice:
		if !x.IsNil() {
			out.Set(reflect.MakeSlice(x.Type(), x.Len(), x.Len()))
		}
		for i := range x.Len() {
			out.Index(i).Set(deepCopy(x.Index(i)))
		}
	case reflect.Struct:
		for i := range x.NumField() {
			out.Field(i).Set(deepCopy(x.Field(i)))
		}
	}
	return out
}

// R3: what is handed in is not written; what is answered shares no memory with it, with another answer, or with itself; an empty
// list is a nil one. R4: the same term has the same switches and warnings each time.
func TestOwnMemory(t *testing.T) {
	m, terms := &writer{Rand: rand.New(rand.NewSource(7))}, &maker{Rand: rand.New(rand.NewSource(8))}
	for i := range 150 {
		c := theTerm(t)
		switch i % 3 {
		case 1:
			c = termOf(t, m.program())
		case 2:
			c = terms.term()
		}
		c = copied(c)
		kept := copied(c)
		first, list := switched(t, c)
		second, list2 := switched(t, c)
		if !reflect.DeepEqual(c, kept) {
			t.Fatalf("%s\nwas written", shown(kept))
		}
		if third, list3 := switched(t, kept); !reflect.DeepEqual(first, second) || !reflect.DeepEqual(first, third) || !reflect.DeepEqual(list, list2) || !reflect.DeepEqual(list, list3) {
			t.Fatalf("%s\nhas several answers", shown(c))
		}
		all := held(t, reflect.ValueOf(first), nil)
		for _, x := range []any{c, second, list, list2} {
			all = held(t, reflect.ValueOf(x), all)
		}
		if areShared(all) {
			t.Fatalf("%s\nshares memory with its switches", shown(c))
		}
	}
}

// R4: calls from several hands at the same time.
func TestManyHands(t *testing.T) {
	want, list := switched(t, theTerm(t))
	var hands sync.WaitGroup
	for range 8 {
		c := theTerm(t)
		hands.Go(func() {
			for range 20 {
				if s, l, e := match.Switches(c); e != api.OK || !reflect.DeepEqual(s, want) || !reflect.DeepEqual(l, list) {
					t.Error("other switches", e)
				}
				if l, e := match.Warnings(c); e != api.OK || !reflect.DeepEqual(l, list) {
					t.Error("other warnings", e)
				}
			}
		})
	}
	hands.Wait()
}

// odd holds a term that may not be against the promises: it has switches and warnings, or just ErrCore.
func odd(t *testing.T, c api.Core) bool {
	t.Helper()
	if core.Check(c) == api.OK {
		switched(t, c)
		return true
	}
	s, list, e := match.Switches(c)
	other, e2 := match.Warnings(c)
	if e != api.ErrCore || e2 != api.ErrCore || list != nil || other != nil || !reflect.DeepEqual(s, api.Core{}) {
		t.Errorf("%+v: %v, %v, %v, %v, %+v", c, e, e2, list, other, s)
	}
	return false
}

// R1: nothing of what can be handed in lets a call panic.
func TestRawTerms(t *testing.T) {
	may, not := 0, 0
	count := func(c api.Core) {
		if odd(t, c) {
			may++
		} else {
			not++
		}
	}
	small := smallTerm(0)
	for kind := -1; kind < 21; kind++ {
		for _, n := range []int{math.MinInt, -1, 0, 1, 1 << 30, math.MaxInt} {
			for _, text := range []string{"", "x", "add"} {
				c := api.Core{Kind: kind, Name: text, N: n, Tags: []int{n}, Names: []string{text}, Int: api.Int{Neg: n < 0, Mag: []uint32{uint32(n)}}}
				count(c)
				for many := range 4 {
					c.Kids = slices.Repeat([]api.Core{small}, many)
					count(c)
					c.Rows = []api.Row{{E: small}}
					count(c)
					c.Rows = nil
				}
				for _, kids := range [][]api.Shape{nil, {{Kind: api.ShapeAny}}, {{}, {Kind: api.ShapeAny, Name: "x"}}} {
					s := api.Shape{Kind: kind, Name: text, Cell: text, N: n, Span: n + 1, Int: c.Int, Text: text, Kids: kids}
					for _, of := range []api.Core{small, name("x")} {
						rows := []api.Row{{S: s, E: small}, {S: s, E: name("x")}}
						c := api.Core{Kind: api.CoreCase, Kids: []api.Core{of, small}, Rows: rows}
						count(c)
						count(fn("x", c))
						c.Rows = rows[:1]
						count(fn("x", c))
					}
				}
			}
		}
	}
	if may < 300 || not < 1000 {
		t.Errorf("%d may be, %d may not", may, not)
	}
}

// R1: terms and shapes that hold themselves, or that are told without end, are refused.
func TestRings(t *testing.T) {
	kids := make([]api.Core, 2)
	for i := range kids {
		kids[i] = api.Core{Kind: api.CoreApp, Kids: kids}
	}
	shapes := make([]api.Shape, 1)
	shapes[0] = api.Shape{Kind: api.ShapeBlock, Span: 1, Kids: shapes}
	rows := make([]api.Row, 1)
	ring := api.Core{Kind: api.CoreCase, Kids: []api.Core{smallTerm(0), smallTerm(0)}, Rows: rows}
	rows[0] = api.Row{S: api.Shape{Kind: api.ShapeAny}, E: ring}
	wide := smallTerm(0)
	shape := api.Shape{Kind: api.ShapeAny}
	for range 100 {
		wide = tagged(0, wide, wide)
		shape = api.Shape{Kind: api.ShapeBlock, Span: 1, Kids: []api.Shape{shape, shape}}
	}
	for i, c := range []api.Core{{Kind: api.CoreApp, Kids: kids}, ring, wide, caseOf(api.Row{S: shapes[0], E: smallTerm(0)}), caseOf(api.Row{S: shape, E: smallTerm(0)})} {
		if odd(t, c) {
			t.Errorf("%d is not refused", i)
		}
	}
}

// Parts that a term has in several places are made anew in each of them.
func TestSharedParts(t *testing.T) {
	kids := []api.Core{smallTerm(1), tagged(1, smallTerm(2))}
	part := api.Core{Kind: api.CoreCase, Kids: []api.Core{smallTerm(1), smallTerm(0)}, Rows: rowsOf("#1/2 | [0/2 x y]")}
	c := tagged(0, tagged(1, kids...), tagged(1, kids...), part, part)
	s, _ := switched(t, c)
	if areShared(held(t, reflect.ValueOf(s), nil)) {
		t.Error("parts are shared")
	}
}
