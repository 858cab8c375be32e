package prim_test

import (
	"math"
	"strings"
	"testing"

	"smithy/api"
	"smithy/prim"
)

// What it costs: a step for 64 bytes, rounded down; 4 a limb, 1 a byte, 8 an element of a vector.
func TestCosts(t *testing.T) {
	long := func(n int) prim.Value { return text(strings.Repeat("t", n)) }
	many := func(n int) prim.Value { return list(make(v, n)...) }
	bytes := &prim.Bytes{Data: make([]byte, 1000)}
	vector := &prim.Vector{Items: v{long(1000), limbs(100, false)}}
	for _, r := range []struct {
		name string
		args v
		want int
	}{
		{"add", v{limbs(15, false), number(0)}, 0},
		{"add", v{limbs(15, false), number(1)}, 1},
		{"add", v{limbs(16, true), number(0)}, 1},
		{"add", v{limbs(31, false), number(0)}, 1},
		{"add", v{limbs(32, false), number(0)}, 2},
		{"add", v{limbs(api.MaxLimbs, false), number(0)}, 64},
		{"add", v{limbs(api.MaxLimbs, false), number(1)}, 0}, // raises
		{"sub", v{limbs(16, false), limbs(16, false)}, 0},
		{"sub", v{limbs(16, false), number(5)}, 1},
		{"mul", v{limbs(8, false), limbs(8, false)}, 1},
		{"mul", v{limbs(8, false), limbs(7, false)}, 0},
		{"mul", v{limbs(1000, false), limbs(1000, false)}, 0}, // raises
		{"neg", v{limbs(48, false)}, 3},
		{"div", v{limbs(32, false), limbs(16, false)}, 1},
		{"div", v{limbs(32, false), number(0)}, 0}, // raises
		{"div", v{limbs(32, false), limbs(30, false)}, 0},
		{"mod", v{limbs(32, false), number(7)}, 0},
		{"mod", v{limbs(32, false), limbs(33, true)}, 2},
		{"lt", v{limbs(100, false), limbs(100, false)}, 0},
		{"le", v{limbs(100, false), limbs(100, false)}, 0},
		{"rfromint", v{limbs(100, false)}, 0},
		{"rfloor", v{real(math.MaxFloat64)}, 2},
		{"rfloor", v{real(math.Ldexp(1, 511))}, 1},
		{"rfloor", v{real(math.Ldexp(1, 479))}, 0},
		{"rfloor", v{real(math.Inf(1))}, 0},
		{"rbits", v{real(-1)}, 0},
		{"itext", v{huge(strings.Repeat("7", 63))}, 0},
		{"itext", v{huge(strings.Repeat("7", 64))}, 1},
		{"itext", v{huge("~" + strings.Repeat("7", 63))}, 1},
		{"itext", v{huge(strings.Repeat("7", 640))}, 10},
		{"cat", v{long(32), long(31)}, 0},
		{"cat", v{long(32), long(32)}, 1},
		{"cat", v{long(0), long(6400)}, 100},
		{"cat", v{long(api.MaxString / 2), long(api.MaxString / 2)}, 1024},
		{"cat", v{long(api.MaxString), long(1)}, 0}, // raises
		{"size", v{long(6400)}, 0},
		{"ssub", v{long(6400), number(5)}, 0},
		{"substring", v{long(6400), number(5), number(63)}, 0},
		{"substring", v{long(6400), number(5), number(128)}, 2},
		{"substring", v{long(6400), number(5), number(6400)}, 0}, // raises
		{"slt", v{long(6400), long(6400)}, 0},
		{"sle", v{long(6400), long(6400)}, 0},
		{"clt", v{small(1), small(2)}, 0},
		{"cle", v{small(1), small(2)}, 0},
		{"chr", v{number(200)}, 0},
		{"ord", v{small(1 << 29)}, 0},
		{"str", v{small(1)}, 0},
		{"ref", v{long(6400)}, 0},
		{"get", v{&prim.Cell{In: long(6400)}}, 0},
		{"set", v{&prim.Cell{}, long(6400)}, 0},
		{"same", v{&prim.Cell{}, &prim.Cell{}}, 0},
		{"vector", v{many(7)}, 0},
		{"vector", v{many(8)}, 1},
		{"vector", v{many(100)}, 12},
		{"vlen", v{vector}, 0},
		{"vsub", v{vector, number(0)}, 0},
		{"vsub", v{vector, number(1)}, 0},
		{"bnew", v{number(63)}, 0},
		{"bnew", v{number(64)}, 1},
		{"bnew", v{number(api.MaxString)}, 1024},
		{"bnew", v{number(api.MaxString + 1)}, 0}, // raises
		{"blen", v{bytes}, 0},
		{"bget", v{bytes, number(999)}, 0},
		{"bset", v{bytes, number(999), limbs(100, false)}, 0},
		{"print", v{long(63)}, 0},
		{"print", v{long(129)}, 2},
		{"eprint", v{long(64)}, 1},
		{"inputline", v{some{}}, 0},
		{"readfile", v{long(1000)}, 0}, // raises
		{"writefile", v{text("f"), long(63)}, 0},
		{"writefile", v{text("f"), long(64)}, 1},
		{"writefile", v{long(255), long(63)}, 0},
		{"writefile", v{long(256), long(6400)}, 0}, // raises
		{"writefile", v{text(""), long(6400)}, 0},  // raises
		{"exit", v{limbs(100, false)}, 0},
		{"radd", v{real(1), real(2)}, 0},
		{"rneg", v{real(1)}, 0},
		{"rlt", v{real(1), real(2)}, 0},
	} {
		if got := cost(r.name, r.args); got != r.want {
			t.Errorf("%s %.100s: %d steps, not %d", r.name, told(block(0, r.args...)), got, r.want)
		}
	}
}

// What raises costs nothing.
func TestRaisesAheadOfCost(t *testing.T) {
	long := text(strings.Repeat("t", api.MaxString))
	for _, r := range []row{
		{"add", v{limbs(api.MaxLimbs, false), number(1)}, "raises Size"},
		{"cat", v{long, long}, "raises Size"},
		{"substring", v{long, number(1), number(api.MaxString)}, "raises Subscript"},
		{"bnew", v{number(1 << 40)}, "raises Size"},
		{"writefile", v{text("a\x00"), long}, "raises Io"},
		{"writefile", v{text(""), long}, "raises Io"},
		{"readfile", v{text("none")}, "raises Io"},
	} {
		if got := done(prim.New(api.World{}, 0), r.name, r.args); got != r.want {
			t.Errorf("%s: %s", r.name, got)
		}
	}
}

type pair struct {
	a, b  prim.Value
	want  string
	steps int
}

// eq is of each kind of values, both ways round.
func TestEqual(t *testing.T) {
	c, b := &prim.Cell{In: real(1)}, &prim.Bytes{Data: []byte{1}}
	vector := func(l ...prim.Value) prim.Value { return &prim.Vector{Items: l} }
	for _, r := range []pair{
		{number(3), number(3), "#1", 0},
		{number(3), number(-3), "#0", 0},
		{limbs(50, false), limbs(50, false), "#1", 0},
		{small(3), small(3), "#1", 0},
		{small(3), small(4), "#0", 0},
		{text("abc"), text("abc"), "#1", 0},
		{text("abc"), text("abd"), "#0", 0},
		{text(""), text("a"), "#0", 0},
		{c, c, "#1", 0},
		{c, &prim.Cell{In: real(1)}, "#0", 0},
		{b, b, "#1", 0},
		{b, &prim.Bytes{Data: []byte{1}}, "#0", 0},
		{small(0), block(0), "#0", 0},
		{small(1), block(1, some{}), "#0", 0},
		{block(0), block(0), "#1", 1},
		{block(0), block(1), "#0", 1},
		{block(1, some{}), block(2, some{}), "#0", 1},
		{block(1, some{}), block(1), "#0", 1},
		{block(1, number(1)), block(1, number(1)), "#1", 1},
		{block(1, number(1)), block(1, number(2)), "#0", 1},
		{block(0, block(0), number(1)), block(0, block(0), number(1)), "#1", 2},
		{block(0, number(1), block(0), real(1)), block(0, number(2), block(0), real(1)), "#0", 1},
		{block(0, block(0), number(1), block(0)), block(0, block(0), number(2), block(0)), "#0", 2},
		{block(0, small(1), block(0)), block(0, block(1), block(0)), "#0", 1},
		{list(number(1), number(2)), list(number(1), number(2)), "#1", 4},
		{list(number(1), number(2)), list(number(1)), "#0", 2},
		{list(number(1), number(2)), list(number(1), number(3)), "#0", 4},
		{list(), list(), "#1", 0},
		{vector(), vector(), "#1", 1},
		{vector(number(1)), vector(number(1), number(2)), "#0", 1},
		{vector(number(1), block(0)), vector(number(1), block(0)), "#1", 2},
		{vector(number(1), block(0)), vector(number(2), block(0)), "#0", 1},
		{vector(vector(), vector()), vector(vector(), vector()), "#1", 3},
		{vector(real(1)), vector(), "#0", 1},
		{real(1), real(1), "stuck", 0},
		{some{}, some{}, "stuck", 0},
		{number(0), small(0), "stuck", 0},
		{number(0), text(""), "stuck", 0},
		{number(0), block(0), "stuck", 0},
		{text(""), block(0), "stuck", 0},
		{text(""), small(0), "stuck", 0},
		{c, b, "stuck", 0},
		{c, small(0), "stuck", 0},
		{b, text(""), "stuck", 0},
		{vector(), block(0), "stuck", 0},
		{vector(), small(0), "stuck", 0},
		{some{}, block(0), "stuck", 0},
		{some{}, number(0), "stuck", 0},
		{real(1), number(1), "stuck", 0},
		{block(0, number(1), real(1)), block(0, number(1), real(1)), "stuck", 1},
		{block(0, number(1), some{}), block(0, number(1), some{}), "stuck", 1},
	} {
		for _, args := range []v{{r.a, r.b}, {r.b, r.a}} {
			hold(t, []row{{"eq", args, r.want}})
			if got := cost("eq", args); got != r.steps {
				t.Errorf("eq %s: %d steps, not %d", told(block(0, args...)), got, r.steps)
			}
		}
	}
}

// Values that share their parts are gone through part by part: it is the steps that end it.
func TestEqualEnds(t *testing.T) {
	a, b := block(0), block(0)
	for range 60 {
		a, b = block(0, a, a), block(0, b, b)
	}
	if got := done(prim.New(api.World{}, api.MaxFuel), "eq", v{a, b}); got != "running" {
		t.Error(got)
	}
	deep, other := list(), list()
	for range api.MaxFuel {
		deep, other = block(1, block(0, small(0), deep)), block(1, block(0, small(0), other))
	}
	if got := done(prim.New(api.World{}, api.MaxFuel), "eq", v{deep, other}); got != "running" {
		t.Error(got)
	}
}
