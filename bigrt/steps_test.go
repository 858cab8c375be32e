package bigrt

import (
	"math"
	"math/rand/v2"
	"testing"

	"smithy/api"
	"smithy/big"
)

// limbs is how many an argument counts for.
func limbs(v value) int {
	if v.thing != nil && v.thing.Kind == api.HeapReal {
		return 40
	}
	return len(v.int().Mag)
}

// bounded holds how many steps a call takes. The heap is so great that gc.alloc takes a few alone; they are not even left aside.
func (b *bench) bounded(name string, args ...value) {
	n, m := limbs(args[0]), 40
	if len(args) > 1 {
		m = limbs(args[1])
	}
	p, top := b.hand(args)
	before := b.s.Steps()
	b.run(name, p)
	if steps, most := b.s.Steps()-before, 1000+200*(n+2)*(m+2); steps > most {
		b.Errorf("%s of %d and %d limbs: %d steps, %d at most", name, n, m, steps, most)
	}
	b.write(thrownAt, 1)
	b.write(topAt, top)
}

// shapes are integers of n limbs: of one bit, of ones, of ones behind one bit, any.
func shapes(r *rand.Rand, n int) []api.Int {
	if n == 0 {
		return []api.Int{big.Of(0)}
	}
	any := random(r, n)
	return []api.Int{power2(32*n - 1), power2(32*n - 32), near(power2(32*n), -1), near(power2(32*n-31), -1), near(power2(max(32*n-32, 1)), -1), big.Abs(any)}
}

const roomy = 1 << 24

// P16.3: integers of few limbs, in all shapes and with all signs.
func TestFewSteps(t *testing.T) {
	t.Parallel()
	r := rand.New(rand.NewPCG(16, 3))
	for n := range 9 {
		b := newBench(t, roomy, n%2 == 0)
		for _, x := range shapes(r, n) {
			for _, u := range signed(x) {
				for _, name := range ones() {
					b.bounded(name, integer(u))
				}
				for m := range 9 {
					for i, y := range shapes(r, m) {
						v := signed(y)[(i+n)%2]
						for _, name := range twos() {
							b.bounded(name, integer(u), integer(v))
						}
					}
				}
			}
		}
	}
	b := newBench(t, roomy, true)
	for _, x := range reals() {
		b.bounded("real.floor", realOf(x))
		b.bounded("real.bits", realOf(x|1<<63))
	}
	before := b.s.Steps()
	if b.run("raise", api.ExnIo); b.s.Steps()-before > 1000 {
		t.Error("raise:", b.s.Steps()-before, "steps")
	}
}

// P16.3: many limbs. The second argument of a quotient makes first guesses wrong; signs are unlike, so that all is cut downwards.
func TestManySteps(t *testing.T) {
	t.Parallel()
	r := rand.New(rand.NewPCG(16, 4))
	for _, l := range [][2]int{{1024, 1}, {1, 1024}, {512, 513}, {513, 512}, {1023, 2}, {4096, 1}, {4096, 2}, {4096, 3}, {4096, 4}, {4096, 63}, {4096, 1000}, {4096, 3072}, {4096, 4095}, {4096, 4096}, {2, 4096}, {0, 4096}, {4096, 0}, {300, 299}, {300, 150}} {
		b := newBench(t, roomy, false)
		xs, ys := shapes(r, l[0]), shapes(r, l[1])
		for i := range 3 {
			x, y := xs[(2*i)%len(xs)], ys[(3+i)%len(ys)]
			for _, name := range twos() {
				b.bounded(name, integer(x), integer(big.Neg(y)))
			}
		}
	}
}

// P16.3: texts are what takes most steps for what it is allowed.
func TestStepsOfTexts(t *testing.T) {
	t.Parallel()
	r := rand.New(rand.NewPCG(16, 5))
	for _, n := range []int{1, 2, 3, 50, 500, 1000, 1024, 2000, 3000, 4000, 4095, 4096} {
		b := newBench(t, roomy, false)
		for i, x := range shapes(r, n) {
			if i < 2 || i > 4 || n < 2000 {
				b.bounded("int.text", integer(big.Neg(x)))
			}
		}
		b.bounded("int.real", integer(power2(32*n-1)))
		b.bounded("int.neg", integer(power2(32*n-1)))
	}
	b := newBench(t, roomy, false)
	b.bounded("real.floor", realOf(math.Float64bits(-math.MaxFloat64)))
}
