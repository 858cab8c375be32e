package bigrt

import (
	"math/rand/v2"
	"testing"
)

// reckoner calls functions one behind the other in one heap: what they answer is held, and handed to others as it is.
type reckoner struct{ *bench }

// hold holds a value: where.
func (k reckoner) hold(v value) uint64 {
	k.push(k.word(v))
	return k.load(topAt) - 8
}

// call holds what a function answers, which may not raise, of values that are held.
func (k reckoner) call(name string, args ...uint64) uint64 {
	x := k.try(name, args...)
	if x == 0 {
		k.Helper()
		k.Fatalf("%s raised %d", name, k.raised())
	}
	k.push(x)
	return k.load(topAt) - 8
}

// try is what it answers.
func (k reckoner) try(name string, args ...uint64) uint64 {
	p := k.load(topAt)
	for i := range 4 {
		x := uint64(1)
		if i < len(args) {
			x = k.load(args[i])
		}
		k.push(x)
	}
	x := k.run(name, p)
	k.write(topAt, p)
	return x
}

// same holds that two held integers are the same.
func (k reckoner) same(what string, a, b uint64) {
	if at := k.call("int.same", a, b); k.load(at) != 3 {
		k.Helper()
		k.Fatalf("%s: %v and %v", what, k.value(k.load(a)), k.value(k.load(b)))
	}
}

// read is the integer that a held text says.
func (k reckoner) read(text uint64) uint64 {
	digits, tag := k.value(k.load(text)).thing.Bytes, false
	if digits[0] == '~' {
		digits, tag = digits[1:], true
	}
	out, ten := k.hold(number(0)), k.hold(number(10))
	top := k.load(topAt)
	for _, c := range digits {
		sum := k.call("int.add", k.call("int.mul", out, ten), k.hold(number(int64(c-'0'))))
		k.write(out, k.load(sum))
		k.write(topAt, top)
	}
	if tag {
		k.write(out, k.load(k.call("int.neg", out)))
		k.write(topAt, top)
	}
	return out
}

// P16.4: sums, products, quotients and texts are those of the numbers, by the functions alone.
func TestLaws(t *testing.T) {
	for i, name := range []string{"loose", "strict"} {
		t.Run(name, func(t *testing.T) {
			t.Parallel()
			k := reckoner{newBench(t, least, i == 1)}
			r := rand.New(rand.NewPCG(uint64(i), 164))
			top := k.load(topAt)
			for range 300 {
				length := func() int { return r.IntN([4]int{3, 6, 20, 100}[r.IntN(4)]) }
				a, b := k.hold(integer(random(r, length()))), k.hold(integer(random(r, length())))
				k.same("a + b - b", k.call("int.sub", k.call("int.add", a, b), b), a)
				k.same("a - b + b", k.call("int.add", k.call("int.sub", a, b), b), a)
				k.same("0 - (0 - a)", k.call("int.neg", k.call("int.neg", a)), a)
				k.same("a b - b a", k.call("int.mul", a, b), k.call("int.mul", b, a))
				k.same("the text of a", k.read(k.call("int.text", a)), a)
				if k.load(b) != 1 {
					q, rest := k.call("int.div", a, b), k.call("int.mod", a, b)
					k.same("q b + r", k.call("int.add", k.call("int.mul", q, b), rest), a)
					k.same("a b / b", k.call("int.div", k.call("int.mul", a, b), b), a)
				}
				k.write(topAt, top)
			}
		})
	}
}

// P16.2: calls at random on what was answered before, in a heap that has little room beside it; all that is held stays what it is.
func TestReckoning(t *testing.T) {
	for i, name := range []string{"loose", "strict"} {
		t.Run(name, func(t *testing.T) {
			t.Parallel()
			k := reckoner{newBench(t, least, i == 1)}
			r := rand.New(rand.NewPCG(uint64(i), 165))
			bottom := k.load(topAt)
			var held []value
			for range 8000 {
				v := integer(random(r, r.IntN(60)))
				if len(held) > 0 && r.IntN(5) > 0 {
					v = k.reckon(bottom, held, r)
				} else {
					k.hold(v)
				}
				held = k.let(append(held, v), r)
				for i, v := range held {
					if !k.value(k.load(bottom + 8*uint64(i))).same(v) {
						t.Fatalf("%d of %d held integers is not what it was", i, len(held))
					}
				}
			}
		})
	}
}

// reckon holds what a function answers of held integers, from bottom on; or a small number, if it raises.
func (k reckoner) reckon(bottom uint64, held []value, r *rand.Rand) value {
	a, b, name := r.IntN(len(held)), r.IntN(len(held)), twos()[r.IntN(5)]
	want, raises := ofTwo(name, held[a].int(), held[b].int())
	x := k.try(name, bottom+8*uint64(a), bottom+8*uint64(b))
	if x == 0 && k.raised() != raises || x != 0 && (raises != none || !k.value(x).same(want)) {
		k.Fatalf("%s of %v and %v: %v, wanted %v, %d", name, held[a], held[b], k.value(x), want, raises)
	}
	if x == 0 {
		x = k.word(number(-3))
	}
	k.push(x)
	return k.value(x)
}

// let lets some of what is held go, if it is much.
func (k reckoner) let(held []value, r *rand.Rand) []value {
	much := 0
	for _, v := range held {
		much += len(v.int().Mag)
	}
	if much > 1500 || len(held) > 60 {
		n := r.IntN(len(held))
		k.write(topAt, k.load(topAt)-8*uint64(len(held)-n))
		return held[:n]
	}
	return held
}
