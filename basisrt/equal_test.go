package basisrt

import (
	"fmt"
	"math"
	"math/rand/v2"
	"strings"
	"testing"

	"smithy/api"
	"smithy/big"
)

// pair is two values, and whether they are the same.
type pair struct {
	x, y any
	same bool
}

// pairs asks both ways round.
func (b *bench) pairs(l ...pair) {
	b.Helper()
	for _, p := range l {
		want := decimal(one(p.same))
		b.rows(row{"eq", v{p.x, p.y}, want}, row{"eq", v{p.y, p.x}, want})
	}
}

// P17.2: eq of integers and texts.
func TestEqualNumbers(t *testing.T) {
	both(t, func(b *bench) {
		numbers := v{0, 1, -1, 255, 1<<62 - 1, -1 << 62, power2(62), huge("~4611686018427387905"), power2(63), power2(64), big.Neg(power2(64)), power2(95), power2(96), huge("18446744073709551617"), power2(3000)}
		texts := v{"", "\x00", "a", "b", "a\x00", "aaaaaaa", "aaaaaaaa", "aaaaaaab", "aaaaaaaaa", "aaaaaaaaaaaaaaaa", "aaaaaaaaaaaaaaab", some(1000), some(1001), some(65536)}
		for _, l := range []v{numbers, texts} {
			for i, x := range l {
				for j, y := range l {
					b.pairs(pair{x, y, i == j})
				}
				b.rows(row{"eq", v{x, again(0)}, "1"})
			}
		}
		b.pairs(pair{far(farBig), far(farBig), true}, pair{far(farBig), huge("~123456789012345678901234567890"), true}, pair{far(farBig), huge("123456789012345678901234567890"), false}, pair{far(farText), "outside", true}, pair{far(farText), "outsidf", false})
	})
}

// P17.2: texts and integers that are unlike in one byte alone.
func TestEqualBytes(t *testing.T) {
	both(t, func(b *bench) {
		for _, n := range []int{1, 7, 8, 9, 15, 16, 17, 40} {
			s := some(n)
			b.pairs(pair{s, s, true})
			for i := range n {
				u := s[:i] + string([]byte{s[i] ^ 0x80}) + s[i+1:]
				b.pairs(pair{s, u, false})
			}
		}
		for n := 2; n <= 6; n++ {
			x := api.Int{Mag: make([]uint32, n)}
			for i := range x.Mag {
				x.Mag[i] = 0x7fffffff - uint32(i)
			}
			b.pairs(pair{x, x, true}, pair{x, big.Neg(x), false})
			for i := range n {
				y := api.Int{Mag: append([]uint32(nil), x.Mag...)}
				y.Mag[i] ^= 1
				b.pairs(pair{x, y, false})
			}
		}
	})
}

// P17.2: blocks and vectors: tags, how many there are, and what they have, in order.
func TestEqualThings(t *testing.T) {
	both(t, func(b *bench) {
		one := func(tag int, l ...any) block { return block{tag, l} }
		b.pairs(
			pair{unit{}, unit{}, true}, pair{unit{}, one(0), true}, pair{one(0), one(0), true}, pair{unit{}, far(farUnit), true}, pair{one(0), one(1), false}, pair{one(0), one(65535), false}, pair{one(256), one(1), false},
			pair{one(1, 1), one(1, 1), true}, pair{one(1, 1), one(1, 2), false}, pair{one(1, 1), one(2, 1), false}, pair{one(1, 1), one(1), false}, pair{one(1, 1), one(1, 1, 1), false},
			pair{0, one(0), false}, pair{1, one(1), false}, pair{-1, one(0, 1), false}, pair{0, unit{}, false}, pair{1<<62 - 1, one(3, "x"), false},
			pair{one(3, "a", huge("123456789012345678901"), 5), one(3, "a", huge("123456789012345678901"), 5), true}, pair{one(3, "a", 5), one(3, "b", 5), false}, pair{one(3, "a", 5), one(3, "a", 6), false},
			pair{one(0, one(0), one(1)), one(0, one(0), one(1)), true}, pair{one(0, one(0), one(1)), one(0, one(1), one(0)), false}, pair{one(0, one(0, 1), 2), one(0, one(0, 2), 1), false},
			pair{one(0, one(0, one(0, one(0, "deep")))), one(0, one(0, one(0, one(0, "deep")))), true}, pair{one(0, one(0, one(0, one(0, "deep")))), one(0, one(0, one(0, one(0, "deeq")))), false},
			pair{vec{}, vec{}, true}, pair{vec{1}, vec{1}, true}, pair{vec{1}, vec{2}, false}, pair{vec{1}, vec{}, false}, pair{vec{1, 2}, vec{1, 2, 3}, false}, pair{vec{vec{}, vec{"x"}}, vec{vec{}, vec{"x"}}, true}, pair{vec{vec{}, vec{"x"}}, vec{vec{"x"}, vec{}}, false},
			pair{list{}, list{}, true}, pair{list{1, 2, 3}, list{1, 2, 3}, true}, pair{list{1, 2, 3}, list{1, 2}, false}, pair{list{1, 2, 3}, list{1, 2, 4}, false}, pair{list{}, list{1}, false}, pair{list{list{}, list{1}}, list{list{}, list{1}}, true}, pair{list{list{1}, list{}}, list{list{}, list{1}}, false},
			pair{far(farBlock), one(3, "outside", 7), true}, pair{far(farBlock), one(3, "outside", 8), false}, pair{far(farVector), vec{1, huge("~123456789012345678901234567890"), 3}, true}, pair{far(farList), list{"outside"}, true},
		)
	})
}

// P17.2: each value of each place of a block or vector counts.
func TestEqualPlaces(t *testing.T) {
	both(t, func(b *bench) {
		for n := 1; n <= 6; n++ {
			for i := range n {
				x, y := make(v, n), make(v, n)
				for k := range n {
					x[k], y[k] = v{k, fmt.Sprint(k), vec{k}}[k%3], v{k, fmt.Sprint(k), vec{k}}[k%3]
				}
				b.pairs(pair{block{4, x}, block{4, y}, true}, pair{vec(x), vec(y), true})
				y[i] = v{k(i), fmt.Sprint("no ", i), vec{}}[i%3]
				b.pairs(pair{block{4, x}, block{4, y}, false}, pair{vec(x), vec(y), false})
			}
		}
	})
}

func k(i int) int { return i + 100 }

// P17.2: cells and bytes are the same if they are one, whatever is in them; so are those within others.
func TestEqualCells(t *testing.T) {
	both(t, func(b *bench) {
		c, d := b.kept("ref", 1), b.kept("ref", 1)
		x, y := b.kept("bnew", 3), b.kept("bnew", 3)
		b.pairs(
			pair{c, c, true}, pair{c, d, false}, pair{x, x, true}, pair{x, y, false}, pair{exn(1), exn(1), true}, pair{exn(1), exn(2), false}, pair{exn(1), c, false},
			pair{tuple(c, x), tuple(c, x), true}, pair{tuple(c, x), tuple(d, x), false}, pair{tuple(c, x), tuple(c, y), false}, pair{vec{exn(4), c}, vec{exn(4), c}, true}, pair{vec{exn(4)}, vec{exn(5)}, false}, pair{ref{c}, ref{c}, false},
		)
		b.rows(row{"set", v{c, d}, "<0: >"}, row{"set", v{d, c}, "<0: >"}, row{"eq", v{c, d}, "0"}, row{"eq", v{c, c}, "1"})
	})
}

// P17.2: fields in order, till two are unlike: what stands behind these isn't looked at, whatever it is.
func TestEqualInOrder(t *testing.T) {
	both(t, func(b *bench) {
		b.pairs(
			pair{block{1, v{1, 2.5}}, block{1, v{2, 2.5}}, false}, pair{block{1, v{2.5}}, block{2, v{2.5}}, false}, pair{block{1, v{2.5}}, block{1, v{2.5, 2.5}}, false}, pair{vec{"a", closed{}}, vec{"b", closed{}}, false},
			pair{tuple(tuple(1, tuple(2, 3)), 2.5), tuple(tuple(1, tuple(2, 4)), 2.5), false}, pair{vec{2.5}, vec{}, false},
		)
	})
}

// P17.3: a thing and itself are the same without a look at it: reals, functions, also within others; and what goes round.
func TestEqualItself(t *testing.T) {
	both(t, func(b *bench) {
		b.stuck = true
		for _, x := range append(all(), math.NaN(), 0.0, far(farReal), closed{}, tuple(1.5, closed{2}), at(always-1)) {
			base := len(b.stack)
			b.push(x)
			it := b.last()
			b.rows(row{"eq", v{it, it}, "1"})
			b.pairs(pair{tuple(it, 1), tuple(it, 1), true}, pair{tuple(it, 1), tuple(it, 2), false}, pair{vec{tuple(it), it}, vec{tuple(it), it}, true}, pair{list{it, it}, list{it, it}, true}, pair{tuple(2, it), tuple(1, it), false})
			b.popTo(base)
		}
	})
}

// P17.2: what is shared is the same wherever it is met.
func TestEqualShared(t *testing.T) {
	both(t, func(b *bench) {
		var tops [2]at
		for i := range tops {
			base := len(b.stack)
			b.push(tuple("leaf"))
			for range 8 {
				b.push(tuple(b.last(), b.last(), 1))
				b.keepLast(base)
			}
			tops[i] = b.last()
		}
		b.pairs(pair{tops[0], tops[1], true}, pair{tops[0], tuple(tops[0], tops[0], 1), false}, pair{tuple(tops[0], tops[1], 2), tuple(tops[1], tops[0], 2), true}, pair{tuple(tops[0], tops[1], 2), tuple(tops[1], tops[0], 3), false})
	})
}

// anything is a value at random, which has no reals or functions; how deep it may be.
func anything(r *rand.Rand, deep int) any {
	few := func() (l v) {
		for range r.IntN(4) {
			l = append(l, anything(r, deep-1))
		}
		return l
	}
	if deep == 0 {
		return v{r.IntN(3), strings.Repeat("x", r.IntN(3)), big.Mul(power2(70), big.Of(int64(r.IntN(3)-1)))}[r.IntN(3)]
	}
	switch r.IntN(5) {
	case 0:
		return vec(few())
	case 1:
		return list(few())
	}
	return block{r.IntN(3), few()}
}

// P17.2: values at random: each and one that is made once more, and each and others.
func TestEqualAtRandom(t *testing.T) {
	both(t, func(b *bench) {
		r := rand.New(rand.NewPCG(17, 3))
		sames := 0
		for i := range 1500 {
			b.stuck = false
			deep := 1 + r.IntN(4)
			x := anything(r, deep)
			y := x
			if i%3 > 0 {
				y = anything(r, deep)
				b.stuck = true // an integer and a text may be met
			}
			base := len(b.stack)
			if b.ask("eq", x, y) == "1" {
				sames++
			}
			b.popTo(base)
		}
		if sames <= 500 {
			b.Error(sames, "were the same")
		}
	})
}
