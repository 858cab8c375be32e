package basisrt

import (
	"fmt"
	"slices"
	"strings"
	"testing"

	"smithy/api"
)

// last is the held word that was held last.
func (b *bench) last() at { return at(len(b.stack) - 1) }

// kept holds what a call answers, and says where.
func (b *bench) kept(name string, args ...any) at {
	b.Helper()
	b.ask(name, args...)
	return b.last()
}

// all are values of each kind.
func all() v {
	return v{0, 1, -1, 1<<62 - 1, -1 << 62, power2(62), huge("~9999999999999999999999"), "", "text", 2.5, bytes("\x01\x02"), unit{}, block{0, nil}, block{65535, v{1, "x"}}, vec{}, vec{1, "y"}, ref{"in it"}, closed{3, "z"}, exn(2), list{1, 2}}
}

// P17.2: new cells with values of all kinds; what is in them, and is set there.
func TestCells(t *testing.T) {
	both(t, func(b *bench) {
		for _, x := range append(all(), far(farText), far(farCell), at(0), at(6)) {
			base := len(b.stack)
			c := b.kept("ref", x)
			b.ask("get", c)
			for _, y := range all() {
				b.rows(row{"set", v{c, y}, "<0: >"})
				b.ask("get", c)
				b.popTo(int(c) + 1)
			}
			b.popTo(base)
		}
	})
}

// P17.2: what is set is seen through all that reach a cell, also long after that; a cell may hold itself, and what holds it.
func TestShared(t *testing.T) {
	both(t, func(b *bench) {
		c := b.kept("ref", 1)
		b.push(block{2, v{c, vec{c, c}, closed{c}}})
		b.push(ref{c})
		for range 3 {
			for _, x := range []any{"first", c, at(int(c) + 1), at(int(c) + 2), exn(5), far(farBlock), unit{}} {
				b.rows(row{"set", v{c, x}, "<0: >"}) // what is held is walked through
				b.rows(row{"cat", v{some(100), some(200)}, short(some(100) + some(200))})
				b.ask("get", c)
				b.popTo(int(c) + 3)
			}
		}
		b.rows(row{"set", v{c, again(0)}, "<0: >"}, row{"get", v{c}, fmt.Sprint("cell ", b.stack[c].N)})
		b.rows(row{"set", v{exn(6), "an exception's cell"}, "<0: >"}, row{"get", v{exn(6)}, `"an exception's cell"`}, row{"set", v{exn(6), c}, "<0: >"}, row{"set", v{exn(6), again(0)}, "<0: >"})
		b.rows(row{"get", v{far(farCell)}, `"outside"`}, row{"set", v{far(farCell), -5}, "<0: >"}, row{"get", v{far(farCell)}, "~5"}, row{"set", v{far(farCell), far(farBig)}, "<0: >"})
	})
}

// P17.2: whether two cells are one.
func TestSame(t *testing.T) {
	both(t, func(b *bench) {
		c, d := b.kept("ref", 1), b.kept("ref", 1)
		b.rows(
			row{"same", v{c, c}, "1"}, row{"same", v{c, d}, "0"}, row{"same", v{d, c}, "0"}, row{"same", v{exn(0), exn(0)}, "1"}, row{"same", v{exn(0), exn(1)}, "0"},
			row{"same", v{exn(7), c}, "0"}, row{"same", v{far(farCell), far(farCell)}, "1"}, row{"same", v{far(farCell), d}, "0"}, row{"set", v{c, d}, "<0: >"}, row{"same", v{c, d}, "0"},
		)
		b.ask("get", c)
		b.rows(row{"same", v{b.last(), d}, "1"}, row{"same", v{c, b.last()}, "0"})
	})
}

// P17.2: vectors of lists, of all values; each element is the list's.
func TestVectors(t *testing.T) {
	both(t, func(b *bench) {
		b.rows(row{"vector", v{list{}}, "[]"}, row{"vector", v{list{7}}, "[7]"}, row{"vector", v{list{list{}, list{1}}}, "[0 <1: <0: 1 0>>]"}, row{"vector", v{far(farList)}, `["outside"]`})
		b.push(list(all()))
		it := b.kept("vector", b.last())
		b.rows(row{"vlen", v{it}, decimal(len(all()))})
		for i := range all() {
			b.ask("vsub", it, i)
			b.popTo(int(it) + 1)
		}
		for _, i := range noPlaces(len(all())) {
			b.rows(row{"vsub", v{it, i}, subscript})
		}
		for _, i := range noPlaces(0) {
			b.rows(row{"vsub", v{vec{}, i}, subscript})
		}
		b.rows(row{"vlen", v{vec{}}, "0"}, row{"vlen", v{far(farVector)}, "3"}, row{"vsub", v{far(farVector), 2}, "3"}, row{"vsub", v{far(farVector), 1}, "~123456789012345678901234567890"}, row{"vsub", v{far(farVector), 3}, subscript})
		b.push(vec{"once"})
		b.rows(row{"vector", v{list{b.last(), b.last()}}, `[["once"] ["once"]]`})
	})
}

// P17.2: long lists.
func TestLongLists(t *testing.T) {
	t.Parallel()
	for i, n := range []int{100, 1000, 8000, 50000} {
		b := newBench(t, 1<<24, i%2 == 0)
		var l list
		want := make([]string, n)
		for k := range n {
			l = append(l, 3*k-n)
			want[k] = decimal(3*k - n)
		}
		b.push(l)
		b.rows(row{"vector", v{b.last()}, "[" + strings.Join(want, " ") + "]"})
		it := b.kept("vector", b.last())
		b.rows(row{"vlen", v{it}, decimal(n)}, row{"vsub", v{it, n - 1}, want[n-1]}, row{"vsub", v{it, n / 2}, want[n/2]}, row{"vsub", v{it, n}, subscript}, row{"vsub", v{it, -1}, subscript})
	}
}

// P17.2: a great integer is no place, though a vector had so many elements as its address says.
func TestVastVector(t *testing.T) {
	t.Parallel()
	b := newBench(t, api.MaxHeap, true)
	const many = 1 << 31
	b.push(power2(62))
	place := b.alloc(8 + 8*many) // its elements are never looked at
	b.store(place, 1|api.HeapVector<<1|many<<24)
	b.pushWord(place, small(0))
	it := b.last()
	p, _ := b.hand(v{it, it - 1})
	if x := b.run("do.vsub", p); x != 0 || b.load(b.load(raisedCell)+8) != cellsBase+32+16*api.ExnSubscript {
		t.Errorf("%#x", x)
	}
	p, _ = b.hand(v{it})
	if x := b.run("do.vlen", p); x != 2*many+1 {
		t.Errorf("%#x", x)
	}
}

// P17.2: new bytes are 0, so many as may be.
func TestNewBytes(t *testing.T) {
	both(t, func(b *bench) {
		for _, n := range []int{0, 1, 2, 7, 8, 9, 15, 16, 17, 1000, 65535, 65536} {
			b.ask("bnew", n)
			b.rows(row{"blen", v{b.last()}, decimal(n)})
			b.popTo(always)
		}
		for _, n := range noPlaces(65537) {
			b.rows(row{"bnew", v{n}, size})
		}
	})
}

// P17.2: bytes that are set and told, at all places; values are taken modulo 256.
func TestBytes(t *testing.T) {
	both(t, func(b *bench) {
		values := v{0, 1, 127, 128, 255, 256, 257, -1, -128, -255, -256, -257, 1<<62 - 1, -1 << 62, -1<<62 + 1, power2(62), power2(64), huge("18446744073709551615"), huge("~18446744073709551615"),
			huge("~18446744073709551616"), huge("~18446744073709551617"), huge("4611686018427388159"), huge("~4611686018427388159"), huge("~4611686018427387905"), power2(3000), far(farBig)}
		for _, n := range []int{1, 7, 8, 9, 20} {
			it := b.kept("bnew", n)
			for i := range n {
				for _, a := range values {
					b.rows(row{"bset", v{it, i, a}, "<0: >"})
					b.ask("bget", it, i) // the bytes beside it are walked through
					b.popTo(int(it) + 1)
				}
				b.rows(row{"bset", v{it, i, 100 + i}, "<0: >"}, row{"bget", v{it, i}, decimal(100 + i)}, row{"bset", v{it, i, again(1)}, "<0: >"}, row{"bget", v{it, i}, decimal(i)})
			}
			for _, i := range noPlaces(n) {
				b.rows(row{"bget", v{it, i}, subscript}, row{"bset", v{it, i, 1}, subscript}, row{"bset", v{it, i, power2(70)}, subscript})
			}
			b.popTo(always)
		}
	})
}

// P17.2: what is set in bytes is seen through all that reach them; bytes without a place; such that lie outside the heap; long ones.
func TestSharedBytes(t *testing.T) {
	both(t, func(b *bench) {
		it := b.kept("bnew", 12)
		b.push(tuple(it, vec{it}, ref{it}))
		for i := range 12 {
			b.rows(row{"bset", v{it, i, 200 + i}, "<0: >"}, row{"cat", v{some(10), some(20)}, short(some(10) + some(20))}, row{"bget", v{it, i}, decimal(200 + i)})
		}
		empty := b.kept("bnew", 0)
		for _, i := range noPlaces(0) {
			b.rows(row{"bget", v{empty, i}, subscript}, row{"bset", v{empty, i, 1}, subscript})
		}
		b.rows(row{"blen", v{far(farBytes)}, "9"}, row{"bget", v{far(farBytes), 8}, "9"}, row{"bset", v{far(farBytes), 8, -2}, "<0: >"}, row{"bget", v{far(farBytes), 8}, "254"}, row{"bget", v{far(farBytes), 9}, subscript})
		long := b.kept("bnew", api.MaxString)
		for _, i := range []int{0, 1, 65535, 32768, 40001} {
			b.rows(row{"bset", v{long, i, i + 7}, "<0: >"}, row{"bget", v{long, i}, decimal((i + 7) % 256)})
		}
		b.rows(row{"bget", v{long, 65536}, subscript})
	})
}

// P17.2: all primitives may be handed one thing for all that may be one.
func TestSameTwice(t *testing.T) {
	both(t, func(b *bench) {
		b.push("twice")
		it := b.last()
		b.rows(
			row{"cat", v{it, it}, `"twicetwice"`}, row{"slt", v{it, it}, "0"}, row{"sle", v{it, it}, "1"}, row{"eq", v{it, it}, "1"}, row{"writefile", v{it, it}, "<0: >"}, row{"readfile", v{it}, `"twice"`},
			row{"clt", v{3, again(0)}, "0"}, row{"cle", v{3, again(0)}, "1"}, row{"radd", v{1.5, again(0)}, "4008000000000000"}, row{"rsub", v{1.5, again(0)}, "0000000000000000"}, row{"rdiv", v{1.5, again(0)}, "3ff0000000000000"},
			row{"rlt", v{1.5, again(0)}, "0"}, row{"rle", v{1.5, again(0)}, "1"}, row{"bset", v{bytes("abc"), 2, again(1)}, "<0: >"},
		)
		if !slices.ContainsFunc(b.w.Files(), func(f api.File) bool { return f == api.File{Name: "twice", Data: "twice"} }) {
			b.Error(b.w.Files())
		}
	})
}
