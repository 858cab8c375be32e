package colour

import (
	"math/rand/v2"
	"reflect"
	"slices"
	"sync"
	"testing"

	"smithy/api"
)

// piece is one of memory.
type piece struct{ from, to uintptr }

// held is all memory that the lists of something lie in, with the room behind them.
func held(t *testing.T, x reflect.Value, empty bool, list []piece) []piece {
	switch x.Kind() {
	case reflect.Slice:
		if !x.IsNil() && x.Len() == 0 && !empty {
			t.Error("an empty list that is not nil")
		}
		if n := uintptr(x.Cap()) * x.Type().Elem().Size(); n > 0 {
			list = append(list, piece{x.Pointer(), x.Pointer() + n})
		}
		for i := range x.Len() {
			list = held(t, x.Index(i), empty, list)
		}
	case reflect.Struct:
		for i := range x.NumField() {
			list = held(t, x.Field(i), empty, list)
		}
	}
	return list
}

// areShared tells whether two pieces of memory lie in one another.
func areShared(l []piece) bool {
	slices.SortFunc(l, func(a, b piece) int { return int(int64(a.from) - int64(b.from)) })
	for i := range l[1:] {
		if l[i].to > l[i+1].from {
			return true
		}
	}
	return false
}

// copied is a program that has nothing in common with p.
func copied(p api.WordProgram) api.WordProgram {
	p.Data, p.Funs = slices.Clone(p.Data), slices.Clone(p.Funs)
	for i := range p.Funs {
		p.Funs[i].Code = slices.Clone(p.Funs[i].Code)
		for j := range p.Funs[i].Code {
			p.Funs[i].Code[j].Args = slices.Clone(p.Funs[i].Code[j].Args)
		}
	}
	return p
}

// R3: what is handed in is not written; what is answered shares no memory with it, with another answer, or with itself; an empty list is
// a nil one. R4: the same program has the same answer each time.
func TestOwnMemory(t *testing.T) {
	t.Parallel()
	hold := func(p api.WordProgram) api.WordProgram {
		p = copied(p)
		for i := range p.Funs {
			for j := range p.Funs[i].Code {
				if w := &p.Funs[i].Code[j]; w.Args == nil && j%2 == 0 {
					w.Args = []int{}
				}
			}
		}
		before := copied(p)
		first, second := made(t, p), made(t, p)
		Check(p)
		if !reflect.DeepEqual(p, before) {
			t.Fatalf("%s\nwas written", shown(before))
		}
		if !reflect.DeepEqual(first, second) {
			t.Fatalf("%s\nhas two answers", shown(p))
		}
		pieces := held(t, reflect.ValueOf(p), true, nil)
		pieces = held(t, reflect.ValueOf(first), false, pieces)
		if pieces = held(t, reflect.ValueOf(second), false, pieces); areShared(pieces) {
			t.Fatalf("%s\nshares memory", shown(p))
		}
		return first
	}
	programs(40000, 300, func(m *maker, p api.WordProgram) { hold(hold(p)) })
}

// R4: calls from several hands at the same time.
func TestManyHands(t *testing.T) {
	t.Parallel()
	var hands sync.WaitGroup
	programs(50000, 8, func(m *maker, p api.WordProgram) {
		mine, want := copied(p), made(t, p)
		hands.Go(func() {
			for range 20 {
				if got, e := Program(mine); e != api.OK || !reflect.DeepEqual(got, want) || Check(got) != api.OK {
					t.Error("another answer", e)
				}
			}
		})
	})
	hands.Wait()
}

// change changes one thing of a value at random.
func change(r *rand.Rand, x reflect.Value) {
	switch x.Kind() {
	case reflect.Struct:
		change(r, x.Field(r.IntN(x.NumField())))
	case reflect.Slice:
		if x.Len() == 0 || r.IntN(12) == 0 {
			x.Set(reflect.MakeSlice(x.Type(), r.IntN(3), 3))
			return
		}
		change(r, x.Index(r.IntN(x.Len())))
	case reflect.Int, reflect.Int64:
		x.SetInt([]int64{-1, 0, 1, 2, 5, 9, 40, 1 << 16, 1<<16 + 1, 1 << 20, 1 << 40, x.Int() + 1, x.Int() - 1}[r.IntN(13)])
	case reflect.Uint8:
		x.SetUint(uint64(r.IntN(256)))
	case reflect.String:
		x.SetString("other")
	}
}

// P0, P19.1, P19.2: programs that are changed at random end with an answer, and are refused for what the words say.
func TestChanged(t *testing.T) {
	t.Parallel()
	count := map[api.Errno]int{}
	programs(60000, 2000, func(m *maker, p api.WordProgram) {
		p = copied(p)
		for range 1 + m.n(3) {
			change(m.r, reflect.ValueOf(&p).Elem())
		}
		want := Check(p)
		if want == api.ErrColour { // it may be
			want = api.OK
			for _, f := range p.Funs {
				if f.Slots > full {
					want = api.ErrColour
				}
			}
		}
		count[want]++
		if want != api.OK {
			refused(t, p, want)
			return
		}
		holdAlike(t, p, made(t, p), call{}, theWorld(), 10, 200)
	})
	if count[api.OK] < 300 || count[api.ErrColour] < 3 || count[api.ErrWordForm] < 300 {
		t.Error(count)
	}
}
