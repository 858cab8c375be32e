package gcrt

import (
	"encoding/binary"
	"math/rand/v2"
	"strconv"
	"testing"

	"smithy/api"
	"smithy/heap"
)

// actor does what a program may do, at random.
type actor struct {
	*bench
	r     *rand.Rand
	fresh int64  // the thing that was made by the last call but those of gc.mark, -1 if none was
	given uint64 // bytes in all
	drops int    // how seldom something is let go
}

func newActor(t *testing.T, size, seed uint64, strict bool) *actor {
	b := newBench(t, size, strict, dataThings()...)
	a := &actor{bench: b, r: rand.New(rand.NewPCG(seed, 15)), fresh: -1}
	a.drops = one(a.r, 1, 3, 30)
	a.walk()
	return a
}

// dataThings are things that lie outside the heap: of each kind, with values that are small or each other.
func dataThings() []api.Thing {
	return []api.Thing{
		text("outside the heap"), block(0), block(7, small(3), thing(0), thing(3)), vector(thing(2), thing(3), thing(1)), cell(thing(3)),
		bytesOf("\x00\x01\x02"), real("realreal"), bigOf(1, "limbslimbs!!"), closure(9, thing(8), small(-4)),
	}
}

// one is one of these.
func one[T any](r *rand.Rand, l ...T) T { return l[r.IntN(len(l))] }

// reached is one of the things that are reached, or that lie outside the heap.
func (a *actor) reached() api.Ref {
	if len(a.met) == 0 || a.r.IntN(6) == 0 {
		return thing(int64(a.r.IntN(len(a.fixed))))
	}
	return thing(a.met[a.r.IntN(len(a.met))])
}

// address is a word that looks like a thing's address: a reached one, one nearby, one in the heap.
func (a *actor) address() uint64 {
	return one(a.r, a.word(a.reached()), a.word(a.reached()), a.word(a.reached())+8, heapBase+a.r.Uint64N(a.heap)&^7, a.top())
}

func (a *actor) value() api.Ref {
	if a.r.IntN(3) > 0 {
		return a.reached()
	}
	return small(one(a.r, 0, 1, -1, 1<<62-1, -1<<62, int64(a.r.Uint64())>>2, int64(a.address()>>1)))
}

func (a *actor) values(n int) []api.Ref {
	var out []api.Ref
	for range n {
		v := a.value()
		if a.r.IntN(30) == 0 {
			v = a.self()
		}
		out = append(out, v)
	}
	return out
}

// bytes are some that may look like addresses.
func (a *actor) bytes(n int) string {
	var out []byte
	for len(out) < n {
		out = binary.LittleEndian.AppendUint64(out, one(a.r, a.r.Uint64(), a.address(), 0, heap.Header(text("abc"))))
	}
	return string(out[:n])
}

func (a *actor) thing() api.Thing {
	many := a.r.IntN(one(a.r, 2, 5, 40))
	switch kind := 1 + a.r.IntN(8); kind {
	case api.HeapBlock:
		return block(one(a.r, 0, 1, 65535, a.r.IntN(65536)), a.values(many)...)
	case api.HeapBig:
		return bigOf(a.r.IntN(2), a.bytes(8+4*many)+"\x00\x00\x00\x01")
	case api.HeapReal:
		return real(a.bytes(8))
	case api.HeapCell:
		return cell(a.values(1)[0])
	case api.HeapVector:
		return vector(a.values(many)...)
	case api.HeapClosure:
		return closure(one(a.r, 0, 1, 1<<22-1, a.r.IntN(1<<22)), a.values(many)...)
	default: // texts and bytes
		return api.Thing{Kind: kind, Bytes: a.bytes(a.r.IntN(one(a.r, 3, 20, 200)))}
	}
}

// room lets go of what is held, till n bytes more are within what is promised.
func (a *actor) room(n uint64) {
	for a.size+n > quarter(a.heap) {
		if len(a.stack) > 0 {
			a.pop(1 + a.r.IntN(len(a.stack)))
		} else {
			for i := range a.things[:cellCount] {
				a.change(thing(int64(i)), 0, small(5))
			}
			a.holdAt(0, small(6))
		}
		a.walk()
	}
}

// put has a value held in some place: a held word, or a value of a thing.
func (a *actor) put(r api.Ref) {
	switch a.r.IntN(10) {
	case 0:
		a.holdAt(len(a.stack), r)
	case 1:
		a.change(thing(int64(a.r.IntN(cellCount))), 0, r)
	case 2:
		if len(a.stack) > 0 {
			a.holdAt(a.r.IntN(len(a.stack)), r)
		}
	case 3:
		a.link(a.reached(), r)
	default:
		if a.top() < a.end() {
			a.push(r)
		}
	}
}

// link sets a value of a thing that may hold one; things in the data have none of the heap.
func (a *actor) link(of, r api.Ref) {
	inData := of.N >= cellCount && of.N < int64(len(a.fixed))
	if l := a.things[of.N].Refs; len(l) > 0 && !inData {
		a.set(of, a.r.IntN(len(l)), r)
		if of.N != a.fresh || a.r.IntN(2) == 0 {
			a.mark(of)
		}
	}
}

// act does one thing.
func (a *actor) act() {
	switch a.r.IntN(16) {
	case 0, 1, 2, 3, 4, 5:
		t := a.thing()
		a.room(uint64(heap.Size(t)))
		for i, r := range t.Refs { // some may have been let go
			if r.Kind == api.RefThing && r.N >= int64(len(a.fixed)) && r != a.self() && a.places[r.N] == 0 {
				t.Refs[i] = small(0)
			}
		}
		r := a.make(t)
		a.fresh = r.N
		a.given += uint64(heap.Size(t))
		a.put(r)
	case 6:
		a.lose()
	case 7, 8, 9:
		a.link(a.reached(), a.value())
	case 10:
		a.put(a.value())
	case 11:
		if len(a.stack) > 0 && a.r.IntN(a.drops) == 0 {
			a.pop(1 + a.r.IntN(min(len(a.stack), 3)))
		}
	case 12:
		for range a.r.IntN(9) {
			a.mark(a.reachedOfHeap())
		}
	case 13:
		a.setBytes()
	case 14:
		a.setSpare(a.r.IntN(len(a.spare)), one(a.r, a.address(), a.address()+1, a.r.Uint64()))
	case 15:
		if a.r.IntN(4) == 0 {
			a.done(one(a.r, "gc.minor", "gc.major"))
			a.fresh = -1
		}
	}
	a.walk()
}

// reachedOfHeap is a thing that gc.mark may be told: none of those in the data but the cells of exceptions.
func (a *actor) reachedOfHeap() api.Ref {
	r := a.reached()
	if r.N >= cellCount && r.N < int64(len(a.fixed)) {
		r.N %= cellCount
	}
	return r
}

// lose asks for bytes that nobody holds then, and lays there what is no thing.
func (a *actor) lose() {
	n := 8 + 8*a.r.Uint64N(one(a.r, uint64(4), 40, 400))
	a.room(n)
	at := a.give(n)
	a.fresh = -1
	a.given += n
	for i := uint64(0); i < n; i += 8 {
		a.store(at+i, one(a.r, a.r.Uint64(), a.address(), 1, 0))
	}
}

// setBytes changes a byte of a thing HeapBytes.
func (a *actor) setBytes() {
	of := a.reachedOfHeap()
	t := a.things[of.N]
	if t.Kind != api.HeapBytes || len(t.Bytes) == 0 {
		return
	}
	i, x := a.r.IntN(len(t.Bytes)), byte(a.r.Uint32())
	a.s.Store(a.word(of)+8+uint64(i), 1, uint64(x))
	a.things[of.N].Bytes = t.Bytes[:i] + string([]byte{x}) + t.Bytes[i+1:]
}

// P15.3, P15.4, P15.5, P15.6: what a program may do, at random, in heaps of many sizes, with nearly a quarter of them reached.
func TestRandomPrograms(t *testing.T) {
	for seed := range uint64(60) {
		t.Run(strconv.FormatUint(seed, 10), func(t *testing.T) {
			t.Parallel()
			r := rand.New(rand.NewPCG(seed, 1))
			size := one(r, least, least, least+r.Uint64N(9), least+r.Uint64N(1<<14))
			if seed%20 == 0 {
				size = 1<<18 + r.Uint64N(9)
			}
			a := newActor(t, size, seed, seed%2 == 0)
			most := uint64(0)
			for i := 0; a.given < 4*size; i++ {
				a.act()
				most = max(most, a.size)
				if i%200 == 0 {
					a.read()
				}
			}
			a.read()
			if most < quarter(size)*8/10 {
				t.Error("only", most, "bytes were reached at one time")
			}
		})
	}
}

// P15.4, P15.5: the same, with gc.minor or gc.major behind each of them.
func TestRandomOften(t *testing.T) {
	for seed := range uint64(40) {
		t.Run(strconv.FormatUint(seed, 10), func(t *testing.T) {
			t.Parallel()
			a := newActor(t, least, 1000+seed, seed%2 == 1)
			for range 500 {
				a.act()
				a.done(one(a.r, "gc.minor", "gc.minor", "gc.major"))
				a.fresh = -1
			}
			a.read()
		})
	}
}
