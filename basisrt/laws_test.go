package basisrt

import (
	"math/rand/v2"
	"strings"
	"testing"
)

// follower calls functions one behind the other in one heap: what they answer is held, and handed to others as it is. It is looked at
// by functions alone.
type follower struct{ *bench }

// hold holds a value: which held word.
func (f follower) hold(x any) at {
	f.push(x)
	return f.last()
}

// call holds what a function answers, which may not raise: which held word.
func (f follower) call(name string, args ...at) at {
	p := f.load(topCell)
	base := len(f.stack)
	for i := range 4 {
		x := uint64(1)
		if i < len(args) {
			x = f.heldWord(int(args[i]))
		}
		f.pushWord(x, small(0))
	}
	x := f.run("do."+name, p)
	if x == 0 {
		f.Helper()
		f.Fatalf("%s raised %#x", name, f.load(raisedCell))
	}
	f.popTo(base)
	f.pushWord(x, small(0))
	return f.last()
}

// is holds that a function answers a small number.
func (f follower) is(want int, name string, args ...at) {
	f.Helper()
	got := f.heldWord(int(f.call(name, args...)))
	f.popTo(len(f.stack) - 1)
	if got != uint64(want)<<1|1 {
		f.Fatalf("%s: %#x, wanted %d", name, got, want)
	}
}

// following does a test in small heaps, again and again.
func following(t *testing.T, do func(f follower, r *rand.Rand)) {
	t.Parallel()
	for i, size := range []uint64{least, least + 8*1000} {
		f := follower{newBench(t, size, i == 0)}
		r := rand.New(rand.NewPCG(uint64(i), 175))
		for range 60 {
			do(f, r)
			f.popTo(always)
		}
	}
}

// P17.5: texts joined and cut again are the texts; what is joined of parts is the same however it is joined.
func TestJoinedAndCut(t *testing.T) {
	following(t, func(f follower, r *rand.Rand) {
		long := some(4000)
		part := func() string {
			from := r.IntN(2000)
			return long[from : from+r.IntN([3]int{3, 30, 600}[r.IntN(3)])]
		}
		a, b, c, zero := f.hold(part()), f.hold(part()), f.hold(part()), f.hold(0)
		ab := f.call("cat", a, b)
		all, other := f.call("cat", ab, c), f.call("cat", a, f.call("cat", b, c))
		f.is(1, "eq", all, other)
		f.is(1, "sle", all, other)
		f.is(0, "slt", all, other)
		m, n := f.call("size", a), f.call("size", ab)
		f.is(1, "eq", f.call("substring", all, zero, m), a)
		f.is(1, "eq", f.call("substring", all, m, f.call("size", b)), b)
		f.is(1, "eq", f.call("substring", all, n, f.call("size", c)), c)
		f.is(1, "eq", f.call("substring", all, zero, f.call("size", all)), all)
		f.is(1, "sle", ab, all)
		f.is(int(f.heldWord(int(m))>>1)+int(f.heldWord(int(f.call("size", b)))>>1), "size", ab)
	})
}

// P17.5: a text is what its bytes, as texts, are joined.
func TestJoinedBytes(t *testing.T) {
	following(t, func(f follower, r *rand.Rand) {
		s := some(r.IntN(60))
		it, out, base := f.hold(s), f.hold(""), len(f.stack)
		for i := range len(s) {
			x := f.call("ssub", it, f.hold(i))
			f.call("cat", out, f.call("str", f.call("chr", f.call("ord", x))))
			word := f.heldWord(int(f.last()))
			f.popTo(base)
			f.store(f.load(bottomCell)+8*uint64(out), word)
		}
		f.is(1, "eq", it, out)
	})
}

// P17.5: a vector of a list has its elements, in order.
func TestVectorOfList(t *testing.T) {
	following(t, func(f follower, r *rand.Rand) {
		var l list
		for i := range r.IntN(40) {
			l = append(l, []any{i, some(i), tuple(i, "x"), vec{i}}[r.IntN(4)])
		}
		it := f.hold(l)
		v := f.call("vector", it)
		f.is(len(l), "vlen", v)
		f.is(1, "eq", v, f.call("vector", it))
		base := len(f.stack)
		for i := range l {
			pair := f.load(f.heldWord(int(it)) + 8) // the list's first element, and the others
			f.pushWord(f.load(pair+8), small(0))
			f.is(1, "eq", f.last(), f.call("vsub", v, f.hold(i)))
			pair = f.load(f.heldWord(int(it)) + 8)
			f.store(f.load(bottomCell)+8*uint64(it), f.load(pair+16))
			f.popTo(base)
		}
	})
}

// P17.5: bytes tell what was set last, and the others stay.
func TestBytesTell(t *testing.T) {
	following(t, func(f follower, r *rand.Rand) {
		n := 1 + r.IntN(50)
		it := f.call("bnew", f.hold(n))
		want := make([]int, n)
		base := len(f.stack)
		for range 60 {
			i, x := r.IntN(n), r.IntN(256)
			want[i] = x
			f.call("bset", it, f.hold(i), f.hold(x+256*(r.IntN(9)-4)))
			k := r.IntN(n)
			f.is(want[k], "bget", it, f.hold(k))
			f.popTo(base)
		}
		for i, x := range want {
			f.is(x, "bget", it, f.hold(i))
		}
		f.is(n, "blen", it)
	})
}

// P17.5: what is set in a cell is what is in it, and it is the one that it was.
func TestCellsTell(t *testing.T) {
	following(t, func(f follower, r *rand.Rand) {
		c := f.call("ref", f.hold("first"))
		d := f.call("ref", c)
		for i := range 20 {
			x := f.hold(some(i * 20))
			f.call("set", c, x)
			f.is(1, "eq", f.call("get", f.call("get", d)), x)
			f.is(1, "same", f.call("get", d), c)
			f.is(0, "same", d, c)
		}
	})
}

// P17.5: what was written is what is read.
func TestWrittenAndRead(t *testing.T) {
	following(t, func(f follower, r *rand.Rand) {
		name, text := f.hold(strings.Repeat("n", 1+r.IntN(255))), f.hold(some(r.IntN([3]int{3, 3000, 1100}[r.IntN(3)])))
		f.call("writefile", name, text)
		f.is(1, "eq", f.call("readfile", name), text)
		f.is(1, "eq", f.call("readfile", name), f.call("readfile", name))
	})
}

// P17.5: sums and differences of reals; the opposite of the opposite.
func TestRealsTell(t *testing.T) {
	following(t, func(f follower, r *rand.Rand) {
		x, y := f.hold(float64(r.IntN(1<<30))), f.hold(float64(r.IntN(1<<30)))
		sum := f.call("radd", x, y)
		f.is(1, "rle", f.call("rsub", sum, y), x)
		f.is(1, "rle", x, f.call("rsub", sum, y))
		f.is(0, "rlt", f.call("rneg", f.call("rneg", x)), x)
		f.is(0, "rlt", x, f.call("rneg", f.call("rneg", x)))
		f.is(1, "rle", f.call("rneg", sum), x)
	})
}
