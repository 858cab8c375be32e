package basisrt

import (
	"math/rand/v2"
	"strconv"
	"testing"

	"smithy/api"
)

// actor does primitives at random, of what is held, in a heap that is nearly full now and then.
type actor struct {
	*bench
	r *rand.Rand
}

// kindOf is the kind of a value: as kindsOf has them, b a block, f a function.
func (a actor) kindOf(r api.Ref) byte {
	if r.Kind == api.RefSmall {
		return 'i'
	}
	switch a.things[r.N].Kind {
	case api.HeapText:
		return 't'
	case api.HeapBig:
		return 'i'
	case api.HeapReal:
		return 'r'
	case api.HeapCell:
		return 'e'
	case api.HeapVector:
		return 'V'
	case api.HeapBytes:
		return 'B'
	case api.HeapClosure:
		return 'f'
	}
	return 'b'
}

// held is one of the held words of a kind, if one is found.
func (a actor) held(kind byte) (at, bool) {
	for range 30 {
		i := a.r.IntN(len(a.stack))
		if kind == 'v' || a.kindOf(a.stack[i]) == kind {
			return at(i), true
		}
	}
	return 0, false
}

// new is a value of a kind that is made.
func (a actor) new(kind byte) any {
	r := a.r
	switch kind {
	case 't':
		return some(r.IntN([3]int{3, 20, 300}[r.IntN(3)]))
	case 'i':
		return []any{r.IntN(4), r.IntN(30), r.IntN(70000) - 2000, power2(62 + r.IntN(50)), -r.IntN(3), 1<<62 - 1}[r.IntN(6)]
	case 'c':
		return r.IntN(300)
	case 'r':
		return []any{real(r.Uint64()), float64(r.IntN(5)), edges()[r.IntN(len(edges()))]}[r.IntN(3)]
	case 'e':
		return []any{ref{a.part()}, exn(r.IntN(8)), far(farCell)}[r.IntN(3)]
	case 'V':
		return []any{vec{}, vec{a.part(), a.part()}, vec{1, a.part(), "x"}, far(farVector)}[r.IntN(4)]
	case 'B':
		return []any{bytes(some(r.IntN(20))), far(farBytes)}[r.IntN(2)]
	case 'l':
		l := list{}
		for range r.IntN(6) {
			l = append(l, a.part())
		}
		return l
	}
	return []any{1, "v", tuple(a.part(), a.part()), unit{}, closed{a.part()}, block{r.IntN(65536), v{a.part()}}, far(farBlock)}[r.IntN(7)]
}

// part is something that is held.
func (a actor) part() any { return at(a.r.IntN(len(a.stack))) }

// argument is one of a kind, that is held or made. What is in a cell outside of the heap is small, or lies outside, too.
func (a actor) argument(kind byte) any {
	if x, is := a.held(kind); is && a.r.IntN(4) > 0 {
		return x
	}
	return a.new(kind)
}

// act does one primitive, and holds what it answers for a while.
func (a actor) act() {
	name := order()[a.r.IntN(len(order()))]
	if name == "exit" || name == "eq" { // of things at random chapter 10's run would be stuck, and what goes round would never end
		return
	}
	var args v
	for _, kind := range []byte(kindsOf()[name]) {
		args = append(args, a.argument(kind))
	}
	if name == "readfile" || name == "writefile" {
		args[0] = []string{"f", "g", "empty", ""}[a.r.IntN(4)]
	}
	if name == "bnew" && a.r.IntN(2) == 0 {
		args[0] = a.r.IntN(100)
	}
	if x, is := args[0].(far); is && name == "set" && x == farCell {
		args[1] = []any{1, far(farText), exn(1)}[a.r.IntN(3)]
	}
	if x, is := args[0].(at); is && name == "set" && a.stack[x] == a.away[farCell] {
		args[1] = -5
	}
	a.ask(name, args...)
	if len(a.stack) > 40 || a.large() {
		a.popTo(always + a.r.IntN(10))
	}
}

// large tells whether the last held thing takes much room.
func (a actor) large() bool {
	last := a.stack[len(a.stack)-1]
	return last.Kind == api.RefThing && (len(a.things[last.N].Bytes) > 1500 || len(a.things[last.N].Refs) > 200)
}

// P17.2: primitives at random, with what others have answered, while things move.
func TestAtRandom(t *testing.T) {
	for seed := range uint64(12) {
		t.Run(strconv.FormatUint(seed, 10), func(t *testing.T) {
			t.Parallel()
			a := actor{r: rand.New(rand.NewPCG(seed, 17))}
			if seed%3 == 0 {
				a.bench = newBench(t, least*8, seed%2 == 0)
			} else {
				a.bench = newKept(t, seed, seed%2 == 0)
			}
			for range 700 {
				a.act()
			}
		})
	}
}
