package gcrt

import (
	"testing"

	"smithy/api"
	"smithy/heap"
)

// holders make things that have three values, that are made long ago.
func holders() []func(l ...api.Ref) api.Thing {
	return []func(l ...api.Ref) api.Thing{
		func(l ...api.Ref) api.Thing { return block(9, l...) },
		func(l ...api.Ref) api.Thing { return vector(l...) },
		func(l ...api.Ref) api.Thing { return closure(77, l...) },
		func(l ...api.Ref) api.Thing { return cell(l[0]) },
	}
}

// old are things that were made, and have gone through the collector's hands several times.
func (b *bench) old(n int) []api.Ref {
	b.Helper()
	var out []api.Ref
	for i := range n {
		make := holders()[i%4]
		out = append(out, b.hold(make(small(1), small(2), small(3))))
	}
	b.done("gc.minor")
	b.done("gc.major")
	b.done("gc.minor")
	return out
}

// P15.5: values that are set in things that were made long ago: a new one is reached by nothing else.
func TestMark(t *testing.T) {
	for _, between := range [][]string{{"gc.minor"}, {"gc.major"}, {"gc.minor", "gc.minor", "gc.major"}, {"gc.major", "gc.minor"}, nil} {
		b := newBench(t, least, len(between) == 1)
		l := b.old(8)
		for i := range cellCount {
			l = append(l, thing(int64(i)))
		}
		for round := range 6 {
			for i, r := range l {
				fields := len(b.things[r.N].Refs)
				b.change(r, round%fields, b.make([]api.Thing{text("new"), cell(r), block(1, r, l[(i+1)%len(l)]), vector()}[round%4]))
				for _, name := range between {
					b.done(name)
				}
			}
			b.churn()
			b.read()
		}
	}
}

// P15.5: a thing is set right behind it was made, without a mark; and behind gc.mark of others.
func TestFresh(t *testing.T) {
	for _, size := range []uint64{least, 1 << 18} {
		b := newBench(t, size, true)
		l := b.old(4)
		for i := range 400 {
			inner := b.hold(text("inner"))
			n := []int{1, 3, 500}[i%3]
			refs := make([]api.Ref, n)
			for j := range refs {
				refs[j] = small(int64(j))
			}
			r := b.hold(block(2, refs...))
			b.set(r, 0, inner)
			b.mark(l[i%4])
			b.set(r, n-1, r)
			b.set(r, n/2, inner)
			b.change(l[i%4], 0, r)
			b.pop(2)
			if i%5 == 0 {
				b.done("gc.minor")
			}
			b.walk()
		}
		b.collect()
	}
}

// P15.5: great things, which may lie elsewhere: values are set in them behind they were made, and later.
func TestMarkGreat(t *testing.T) {
	for _, size := range []uint64{least, 1 << 17, 1<<18 + 1} {
		b := newBench(t, size, false)
		n := int(quarter(size)/8) - 100
		refs := make([]api.Ref, n)
		for i := range refs {
			refs[i] = small(0)
		}
		young := b.hold(text("young"))
		refs[5], refs[n-1] = young, young
		great := b.hold(vector(refs...))
		b.holdAt(0, small(0))
		for i := range 20 {
			if i%3 > 0 {
				b.done([]string{"gc.minor", "gc.major"}[i%2])
			}
			b.change(great, i*(n-1)/20, b.make(cell(young)))
			b.change(great, 7, b.make(cell(great)))
		}
		b.done("gc.minor")
		b.done("gc.major")
		b.read()
	}
}

// P15.5: the same thing marked many times; marks without any setting; marks of things that are just made.
func TestMarkAgain(t *testing.T) {
	b := newBench(t, least, true)
	l := b.old(4)
	for round := range 5 {
		for i := range 5000 {
			b.mark(l[i%4])
			b.mark(thing(int64(i % cellCount)))
		}
		b.change(l[round%4], 0, b.make(text("behind many marks")))
		for range 5000 {
			b.mark(l[round%4])
		}
		r := b.hold(cell(l[round%4]))
		for range 5000 {
			b.mark(r)
		}
		b.change(l[round%4], 0, r)
		b.pop(1)
		b.collect()
	}
}

// P15.5: many things marked between two calls, more than there would be room for in any row of them.
func TestManyMarks(t *testing.T) {
	for _, size := range []uint64{least, 1 << 18} {
		b := newBench(t, size, false)
		var l []api.Ref
		for b.size+1024 < quarter(size)*2/3 {
			l = append(l, b.hold(cell(small(0))))
			if b.top() == b.end() {
				break
			}
		}
		b.done("gc.minor")
		b.done("gc.major")
		for round := range 4 {
			young := b.hold(block(3, small(int64(round))))
			for _, r := range l {
				b.change(r, 0, young)
			}
			b.pop(1)
			b.done([]string{"gc.minor", "gc.major"}[round%2])
			for i, r := range l { // each a young thing of its own, by and by
				if b.size+uint64(heap.Size(cell(r))) <= quarter(size) && i%3 == round%3 {
					b.change(r, 0, b.make(cell(r)))
				}
			}
			for _, r := range l {
				b.mark(r)
			}
			b.churn()
			b.read()
		}
		if len(l) < 300 {
			t.Error("only", len(l), "things were marked")
		}
	}
}

// P15.5: things that are marked and let go; and a thing that is marked, set, and let go by the thing that holds it.
func TestMarkedAndLost(t *testing.T) {
	b := newBench(t, least, true)
	for i := range 300 {
		l := b.old(4)
		for _, r := range l {
			b.change(r, 0, b.make(block(1, r)))
		}
		b.change(thing(int64(i%cellCount)), 0, l[i%4])
		b.pop(4)
		if i%2 == 0 {
			b.change(thing(int64(i%cellCount)), 0, small(0))
		}
		b.walk()
		b.done([]string{"gc.minor", "gc.major"}[i/2%2])
	}
	b.collect()
}
