package prim_test

import (
	"fmt"
	"maps"
	"math"
	"slices"
	"strconv"
	"strings"
	"testing"

	"smithy/api"
	"smithy/big"
	"smithy/prim"
)

// v is a row of values.
type v = []prim.Value

func number(n int64) prim.Value       { return big.Of(n) }
func real(f float64) prim.Value       { return prim.Real(math.Float64bits(f)) }
func text(s string) prim.Value        { return prim.Text(s) }
func small(n int) prim.Value          { return prim.Small(n) }
func list(l ...prim.Value) prim.Value { return prim.List(l) }

func block(tag int, fields ...prim.Value) prim.Value {
	return &prim.Block{Tag: tag, Fields: fields}
}

// limbs is the greatest integer of so many limbs, with a sign.
func limbs(many int, below bool) prim.Value {
	return api.Int{Neg: below, Mag: slices.Repeat([]uint32{math.MaxUint32}, many)}
}

func huge(s string) prim.Value {
	a, e := big.Parse(s)
	if e != api.OK {
		panic(s)
	}
	return a
}

// some is a function, of which package prim knows nothing.
type some struct{ call func() }

// told is a value as a text.
func told(x prim.Value) string {
	all := func(l []prim.Value) string {
		out := ""
		for _, x := range l {
			out += " " + told(x)
		}
		return out
	}
	switch x := x.(type) {
	case api.Int:
		if !big.Valid(x) {
			return "an integer that doesn't stand as it should"
		}
		return big.Text(x)
	case prim.Small:
		return "#" + strconv.Itoa(int(x))
	case prim.Real:
		return fmt.Sprintf("%016x", uint64(x))
	case prim.Text:
		return strconv.Quote(string(x))
	case *prim.Block:
		return "<" + strconv.Itoa(x.Tag) + all(x.Fields) + ">"
	case *prim.Cell:
		return "cell(" + told(x.In) + ")"
	case *prim.Vector:
		return "vector(" + strings.TrimSpace(all(x.Items)) + ")"
	case *prim.Bytes:
		return fmt.Sprintf("bytes(% x)", x.Data)
	}
	return fmt.Sprintf("%T", x)
}

// threw is what was thrown, as a text.
func threw(r *prim.Run, thrown any) string {
	switch x := thrown.(type) {
	case prim.Raised:
		return "raises " + r.Outcome(func() { panic(x) }).Trace[0].Text[len("uncaught exception "):]
	case prim.Over:
		return []string{"running", "exited " + strconv.Itoa(x.Code), "stuck"}[x.Status]
	}
	return fmt.Sprint("throws ", thrown)
}

// done is what a primitive answers or throws, in a run.
func done(r *prim.Run, name string, args v) (answer string) {
	defer func() {
		if thrown := recover(); thrown != nil {
			answer = strings.TrimSuffix(threw(r, thrown), "\n")
		}
	}()
	return told(prim.Primitives()[name].Do(r, args))
}

// cost is how many steps a primitive takes to come to something.
func cost(name string, args v) int {
	steps := 0
	for done(prim.New(api.World{}, steps), name, args) == "running" {
		steps++
	}
	return steps
}

type row struct {
	name string
	args v
	want string
}

func hold(t *testing.T, rows []row) {
	t.Helper()
	for _, r := range rows {
		if got := done(prim.New(api.World{}, 5000), r.name, r.args); got != r.want {
			t.Errorf("%s %.200s: %.200s, not %.200s", r.name, told(block(0, r.args...)), got, r.want)
		}
	}
}

func TestIntegers(t *testing.T) {
	const great = "123456789012345678901234567890"
	hold(t, []row{
		{"add", v{number(2), number(3)}, "5"},
		{"add", v{number(-2), number(2)}, "0"},
		{"add", v{huge(great), number(1)}, "123456789012345678901234567891"},
		{"sub", v{number(2), number(3)}, "~1"},
		{"sub", v{huge(great), huge(great)}, "0"},
		{"mul", v{number(-2), number(3)}, "~6"},
		{"mul", v{number(0), number(-3)}, "0"},
		{"mul", v{huge("4294967296"), huge("~4294967296")}, "~18446744073709551616"},
		{"neg", v{number(7)}, "~7"},
		{"neg", v{number(0)}, "0"},
		{"div", v{number(7), number(2)}, "3"},
		{"div", v{number(-7), number(2)}, "~4"},
		{"div", v{number(7), number(-2)}, "~4"},
		{"div", v{number(-7), number(-2)}, "3"},
		{"mod", v{number(7), number(2)}, "1"},
		{"mod", v{number(-7), number(2)}, "1"},
		{"mod", v{number(7), number(-2)}, "~1"},
		{"mod", v{number(-7), number(-2)}, "~1"},
		{"div", v{number(7), number(0)}, "raises Div"},
		{"mod", v{number(0), number(0)}, "raises Div"},
		{"lt", v{number(1), number(2)}, "#1"},
		{"lt", v{number(2), number(2)}, "#0"},
		{"lt", v{number(2), huge("~" + great)}, "#0"},
		{"le", v{number(2), number(2)}, "#1"},
		{"le", v{number(3), number(2)}, "#0"},
		{"le", v{huge("~" + great), number(2)}, "#1"},
		{"itext", v{number(-12)}, `"~12"`},
		{"itext", v{number(0)}, `"0"`},
		{"itext", v{huge(great)}, `"` + great + `"`},
	})
}

func quotient(a, b prim.Value) prim.Value {
	q, _, _ := big.DivMod(a.(api.Int), b.(api.Int))
	return q
}

// Integers that are made have at most MaxLimbs limbs.
func TestTooManyLimbs(t *testing.T) {
	most, above := limbs(api.MaxLimbs, false), limbs(api.MaxLimbs+1, false)
	half, other := limbs(api.MaxLimbs/2, false), limbs(api.MaxLimbs/2+1, false)
	power := func(n int) prim.Value { return api.Int{Mag: append(make([]uint32, n), 1)} } // of n + 1 limbs
	hold(t, []row{
		{"add", v{most, number(0)}, told(most)},
		{"add", v{most, number(1)}, "raises Size"},
		{"sub", v{most, number(1)}, told(big.Sub(most.(api.Int), big.Of(1)))},
		{"sub", v{most, number(-1)}, "raises Size"},
		{"sub", v{limbs(api.MaxLimbs, true), number(1)}, "raises Size"},
		{"sub", v{above, above}, "0"},
		{"mul", v{half, half}, told(big.Mul(half.(api.Int), half.(api.Int)))},
		{"mul", v{other, half}, "raises Size"},
		{"mul", v{most, most}, "raises Size"},
		{"mul", v{power(api.MaxLimbs / 2), power(api.MaxLimbs/2 - 1)}, told(power(api.MaxLimbs - 1))},
		{"mul", v{power(api.MaxLimbs / 2), power(api.MaxLimbs / 2)}, "raises Size"},
		{"mul", v{most, number(1)}, told(most)},
		{"mul", v{most, number(2)}, "raises Size"},
		{"mul", v{above, number(0)}, "0"},
		{"mul", v{number(0), above}, "0"},
		{"neg", v{most}, told(limbs(api.MaxLimbs, true))},
		{"neg", v{above}, "raises Size"},
		{"div", v{above, number(1)}, "raises Size"},
		{"div", v{above, number(2)}, "raises Size"},
		{"div", v{above, limbs(2, false)}, told(quotient(above, limbs(2, false)))},
		{"mod", v{above, number(2)}, "1"},
		{"mod", v{above, limbs(api.MaxLimbs+2, true)}, "raises Size"},
		{"lt", v{above, above}, "#0"},
		{"itext", v{limbs(6803, false)}, strconv.Quote(big.Text(limbs(6803, false).(api.Int)))},
		{"itext", v{limbs(6804, false)}, "raises Size"},
		{"itext", v{power(6803)}, strconv.Quote(big.Text(power(6803).(api.Int)))},
		{"itext", v{power(6804)}, "raises Size"},
		{"itext", v{power(7281)}, "raises Size"},
		{"itext", v{power(7282)}, "raises Size"},
		{"itext", v{limbs(1<<20, true)}, "raises Size"},
		{"div", v{limbs(1<<20, true), limbs(1<<19, false)}, "raises Size"},
		{"div", v{limbs(1<<20, false), number(0)}, "raises Div"},
		{"div", v{power(2*api.MaxLimbs + 1), power(api.MaxLimbs + 1)}, "raises Size"},
		{"div", v{power(2 * api.MaxLimbs), power(api.MaxLimbs + 1)}, told(power(api.MaxLimbs - 1))},
		{"div", v{limbs(2*api.MaxLimbs, false), limbs(api.MaxLimbs+1, false)}, told(quotient(limbs(2*api.MaxLimbs, false), limbs(api.MaxLimbs+1, false)))},
		{"div", v{limbs(2*api.MaxLimbs+1, false), limbs(api.MaxLimbs+1, false)}, "raises Size"},
		{"div", v{number(1), limbs(1<<20, true)}, "~1"},
	})
	ten := "1" + strings.Repeat("0", api.MaxString)
	least := big.Sub(huge(ten).(api.Int), big.Of(1)) // of just so many digits
	hold(t, []row{
		{"itext", v{huge(ten)}, "raises Size"},
		{"itext", v{least}, strconv.Quote(strings.Repeat("9", api.MaxString))},
		{"itext", v{big.Neg(least)}, "raises Size"},
		{"itext", v{huge(ten[:len(ten)-1])}, strconv.Quote(ten[:len(ten)-1])},
		{"itext", v{huge("~" + ten[:len(ten)-1])}, "raises Size"},
		{"itext", v{huge("~" + ten[:len(ten)-2])}, strconv.Quote("~" + ten[:len(ten)-2])},
	})
	if n := len(big.Text(limbs(6803, false).(api.Int))); n > api.MaxString || n < api.MaxString-10 {
		t.Errorf("a text of %d bytes", n)
	}
}

func TestReals(t *testing.T) {
	inf, nan, odd := math.Inf(1), math.NaN(), prim.Real(0xFFF0000000000001)
	const no = "9221120237041090560" // the bits of what is no number
	hold(t, []row{
		{"radd", v{real(0.1), real(0.2)}, told(real(0.30000000000000004))},
		{"radd", v{real(1 << 53), real(1)}, told(real(1 << 53))},
		{"radd", v{real(1<<53 + 2), real(1)}, told(real(1<<53 + 4))},
		{"radd", v{real(math.MaxFloat64), real(math.MaxFloat64)}, told(real(inf))},
		{"rsub", v{real(0), real(0)}, told(real(0))},
		{"rsub", v{real(1), real(0.9)}, told(real(0.09999999999999998))},
		{"rmul", v{real(-2), real(0)}, "8000000000000000"},
		{"rmul", v{real(1e-200), real(1e-200)}, told(real(0))},
		{"rdiv", v{real(1), real(0)}, told(real(inf))},
		{"rdiv", v{real(1), real(math.Copysign(0, -1))}, told(real(-inf))},
		{"rdiv", v{real(1), real(3)}, told(real(1.0 / 3))},
		{"rneg", v{real(0)}, "8000000000000000"},
		{"rneg", v{real(-2.5)}, told(real(2.5))},
		{"rneg", v{real(inf)}, told(real(-inf))},
		{"rneg", v{odd}, "7ff0000000000001"},
		{"rneg", v{prim.Real(0x7FF8000000000000)}, "fff8000000000000"},
		{"rlt", v{real(1), real(2)}, "#1"},
		{"rlt", v{real(2), real(2)}, "#0"},
		{"rlt", v{real(math.Copysign(0, -1)), real(0)}, "#0"},
		{"rlt", v{real(-inf), real(inf)}, "#1"},
		{"rlt", v{real(nan), real(1)}, "#0"},
		{"rlt", v{real(1), real(nan)}, "#0"},
		{"rle", v{real(2), real(2)}, "#1"},
		{"rle", v{real(0), real(math.Copysign(0, -1))}, "#1"},
		{"rle", v{real(3), real(2)}, "#0"},
		{"rle", v{real(nan), real(nan)}, "#0"},
		{"rle", v{real(inf), real(inf)}, "#1"},
		{"rbits", v{real(0)}, "0"},
		{"rbits", v{real(1)}, "4607182418800017408"},
		{"rbits", v{real(math.Copysign(0, -1))}, "9223372036854775808"},
		{"rbits", v{real(-inf)}, "18442240474082181120"},
		{"rbits", v{real(5e-324)}, "1"},
		{"rbits", v{real(nan)}, no},
		{"rbits", v{odd}, no},
		{"rbits", v{prim.Real(0xFFFFFFFFFFFFFFFF)}, no},
		{"rfloor", v{real(2.5)}, "2"},
		{"rfloor", v{real(-2.5)}, "~3"},
		{"rfloor", v{real(-2)}, "~2"},
		{"rfloor", v{real(math.Copysign(0, -1))}, "0"},
		{"rfloor", v{real(-5e-324)}, "~1"},
		{"rfloor", v{real(5e-324)}, "0"},
		{"rfloor", v{real(1e22)}, "10000000000000000000000"},
		{"rfloor", v{real(-1e22)}, "~10000000000000000000000"},
		{"rfloor", v{real(inf)}, "raises Domain"},
		{"rfloor", v{real(-inf)}, "raises Domain"},
		{"rfloor", v{real(nan)}, "raises Domain"},
		{"rfloor", v{odd}, "raises Domain"},
	})
	for _, name := range []string{"radd", "rsub", "rmul", "rdiv"} {
		x := prim.Primitives()[name].Do(prim.New(api.World{}, 0), v{real(nan), real(1)})
		hold(t, []row{{"rbits", v{x}, no}, {"rlt", v{x, x}, "#0"}})
	}
	for _, args := range []v{{real(inf), real(-inf)}, {real(nan), real(inf)}} {
		x := prim.Primitives()["radd"].Do(prim.New(api.World{}, 0), args)
		hold(t, []row{{"rbits", v{x}, no}})
	}
}

func TestTexts(t *testing.T) {
	hold(t, []row{
		{"cat", v{text("ab"), text("c")}, `"abc"`},
		{"cat", v{text(""), text("")}, `""`},
		{"size", v{text("")}, "0"},
		{"size", v{text("a\x00\xff")}, "3"},
		{"ssub", v{text("ab\xff"), number(2)}, "#255"},
		{"ssub", v{text("abc"), number(0)}, "#97"},
		{"ssub", v{text("abc"), number(3)}, "raises Subscript"},
		{"ssub", v{text("abc"), number(-1)}, "raises Subscript"},
		{"ssub", v{text(""), number(0)}, "raises Subscript"},
		{"ssub", v{text("abc"), huge("18446744073709551616")}, "raises Subscript"},
		{"substring", v{text("abc"), number(1), number(2)}, `"bc"`},
		{"substring", v{text("abc"), number(0), number(3)}, `"abc"`},
		{"substring", v{text("abc"), number(3), number(0)}, `""`},
		{"substring", v{text("abc"), number(1), number(0)}, `""`},
		{"substring", v{text("abc"), number(2), number(2)}, "raises Subscript"},
		{"substring", v{text("abc"), number(4), number(0)}, "raises Subscript"},
		{"substring", v{text("abc"), number(4), number(-1)}, "raises Subscript"},
		{"substring", v{text("abc"), number(-1), number(1)}, "raises Subscript"},
		{"substring", v{text("abc"), number(1), number(-1)}, "raises Subscript"},
		{"substring", v{text("abc"), number(math.MaxInt64), number(math.MaxInt64)}, "raises Subscript"},
		{"substring", v{text("abc"), huge("18446744073709551616"), huge("~18446744073709551616")}, "raises Subscript"},
		{"substring", v{text("abc"), number(1), huge("18446744073709551617")}, "raises Subscript"},
		{"slt", v{text("ab"), text("b")}, "#1"},
		{"slt", v{text("a"), text("ab")}, "#1"},
		{"slt", v{text("ab"), text("ab")}, "#0"},
		{"slt", v{text("\xff"), text("a")}, "#0"},
		{"slt", v{text(""), text("\x00")}, "#1"},
		{"sle", v{text("ab"), text("ab")}, "#1"},
		{"sle", v{text("b"), text("ab")}, "#0"},
		{"sle", v{text(""), text("")}, "#1"},
		{"clt", v{small(1), small(2)}, "#1"},
		{"clt", v{small(2), small(2)}, "#0"},
		{"cle", v{small(2), small(2)}, "#1"},
		{"cle", v{small(3), small(2)}, "#0"},
		{"chr", v{number(0)}, "#0"},
		{"chr", v{number(255)}, "#255"},
		{"chr", v{number(256)}, "raises Chr"},
		{"chr", v{number(-1)}, "raises Chr"},
		{"chr", v{huge("18446744073709551616")}, "raises Chr"},
		{"ord", v{small(0)}, "0"},
		{"ord", v{small(255)}, "255"},
		{"ord", v{small(1<<30 - 1)}, "1073741823"},
		{"str", v{small(97)}, `"a"`},
		{"str", v{small(255)}, `"\xff"`},
		{"str", v{small(256 + 98)}, `"b"`},
	})
	half, one := text(strings.Repeat("x", api.MaxString/2)), text("y")
	both := prim.Primitives()["cat"].Do(prim.New(api.World{}, 5000), v{half, half})
	hold(t, []row{{"size", v{both}, strconv.Itoa(api.MaxString)}, {"cat", v{both, text("")}, told(both)}, {"cat", v{both, one}, "raises Size"}, {"cat", v{one, both}, "raises Size"}})
}

func TestThings(t *testing.T) {
	inside := prim.Cell{In: small(1)}
	vector := &prim.Vector{Items: v{number(5), text("x")}}
	hold(t, []row{
		{"ref", v{number(3)}, "cell(3)"},
		{"get", v{&prim.Cell{In: text("x")}}, `"x"`},
		{"set", v{&inside, text("y")}, "<0>"},
		{"get", v{&inside}, `"y"`},
		{"same", v{&inside, &inside}, "#1"},
		{"same", v{&inside, &prim.Cell{In: text("y")}}, "#0"},
		{"vector", v{list()}, "vector()"},
		{"vector", v{list(number(5), text("x"), list())}, `vector(5 "x" #0)`},
		{"vlen", v{vector}, "2"},
		{"vlen", v{&prim.Vector{}}, "0"},
		{"vsub", v{vector, number(0)}, "5"},
		{"vsub", v{vector, number(1)}, `"x"`},
		{"vsub", v{vector, number(2)}, "raises Subscript"},
		{"vsub", v{vector, number(-1)}, "raises Subscript"},
		{"vsub", v{vector, huge("18446744073709551616")}, "raises Subscript"},
		{"vsub", v{&prim.Vector{}, number(0)}, "raises Subscript"},
		{"bnew", v{number(0)}, "bytes()"},
		{"bnew", v{number(3)}, "bytes(00 00 00)"},
		{"bnew", v{number(-1)}, "raises Size"},
		{"bnew", v{number(api.MaxString + 1)}, "raises Size"},
		{"bnew", v{huge("18446744073709551617")}, "raises Size"},
	})
	two := func() *prim.Bytes { return &prim.Bytes{Data: []byte{7, 255}} }
	hold(t, []row{
		{"blen", v{two()}, "2"},
		{"bget", v{two(), number(1)}, "255"},
		{"bget", v{two(), number(2)}, "raises Subscript"},
		{"bget", v{two(), number(-1)}, "raises Subscript"},
		{"bset", v{two(), number(1), number(3)}, "<0>"},
		{"bset", v{two(), number(2), number(3)}, "raises Subscript"},
		{"bset", v{two(), number(-1), number(3)}, "raises Subscript"},
	})
	for a, want := range map[string]string{"3": "3", "256": "0", "~1": "255", "~257": "255", "18446744073709551617": "1", "~18446744073709551617": "255"} {
		b := two()
		hold(t, []row{{"bset", v{b, number(1), huge(a)}, "<0>"}, {"bget", v{b, number(1)}, want}, {"bget", v{b, number(0)}, "7"}})
	}
	most := prim.Primitives()["bnew"].Do(prim.New(api.World{}, 5000), v{number(api.MaxString)})
	hold(t, []row{{"blen", v{most}, "65536"}, {"bget", v{most, number(65535)}, "0"}})
}

// A vector keeps what was in the list; cells and bytes that were made apart are two.
func TestMadeApart(t *testing.T) {
	r := prim.New(api.World{}, 100)
	do := func(name string, args ...prim.Value) prim.Value { return prim.Primitives()[name].Do(r, args) }
	c := do("ref", number(1))
	vector := do("vector", list(c, c))
	do("set", c, number(2))
	hold(t, []row{
		{"vsub", v{vector, number(1)}, "cell(2)"},
		{"same", v{do("ref", small(1)), do("ref", small(1))}, "#0"},
		{"eq", v{do("ref", small(1)), do("ref", small(1))}, "#0"},
		{"eq", v{do("bnew", number(0)), do("bnew", number(0))}, "#0"},
		{"eq", v{c, c}, "#1"},
		{"eq", v{vector, do("vector", list(c, c))}, "#1"},
	})
}

func TestLists(t *testing.T) {
	for _, x := range []prim.Value{
		small(1), block(0), block(1), block(1, small(0)), block(1, block(0, small(1))), block(1, block(1, small(1), small(0))), block(2, block(0, small(1), small(0))),
		block(1, block(0, small(1), small(7))), block(1, block(0, small(1), number(0))), block(1, block(0, small(1), small(0)), small(1)), number(0), text(""), &prim.Vector{}, some{},
	} {
		hold(t, []row{{"vector", v{x}, "stuck"}})
	}
	if got := told(list(small(5), small(6))); got != "<1 <0 #5 <1 <0 #6 #0>>>>" {
		t.Error(got)
	}
}

// P10.3: the names of all primitives, and how many arguments each has.
func TestPrimitives(t *testing.T) {
	const ones = "neg rneg rfromint rfloor rbits itext size chr ord str ref get vector vlen bnew blen print eprint inputline readfile exit"
	const twos = "add sub mul div mod lt le radd rsub rmul rdiv rlt rle cat ssub slt sle clt cle eq set same vsub bget writefile"
	const threes = "substring bset"
	want := map[string]int{}
	for many, names := range []string{ones, twos, threes} {
		for _, name := range strings.Fields(names) {
			want[name] = many + 1
		}
	}
	got := map[string]int{}
	for name, p := range prim.Primitives() {
		got[name] = p.Many
	}
	if !maps.Equal(got, want) {
		t.Errorf("%v", got)
	}
}

// Of values of other kinds the run is stuck; the kinds of all arguments are looked at ahead of what is raised, and of the
// cost.
func TestKinds(t *testing.T) {
	vector, bytes := &prim.Vector{Items: v{small(1)}}, &prim.Bytes{Data: []byte{1}}
	of := map[byte]prim.Value{'a': number(0), 'x': real(1), 's': text(strings.Repeat("s", 100)), 'c': small(0), 'r': &prim.Cell{In: small(0)}, 'v': vector, 'b': bytes, 'k': block(0), 'f': some{}}
	for _, r := range strings.Fields("add:aa sub:aa mul:aa neg:a div:aa mod:aa lt:aa le:aa radd:xx rsub:xx rmul:xx rdiv:xx rneg:x rlt:xx rle:xx rfromint:a rfloor:x rbits:x itext:a cat:ss size:s ssub:sa substring:saa " +
		"slt:ss sle:ss clt:cc cle:cc chr:a ord:c str:c ref:? get:r set:r? same:rr vector:c vlen:v vsub:va bnew:a blen:b bget:ba bset:baa print:s eprint:s inputline:? readfile:s writefile:ss exit:a") {
		name, kinds, _ := strings.Cut(r, ":")
		args := v{}
		for i := range len(kinds) {
			args = append(args, of[kinds[i]])
			if kinds[i] == '?' {
				args[i] = some{}
			}
		}
		if got := done(prim.New(api.World{}, 100), name, args); got == "stuck" {
			t.Errorf("%s: stuck", name)
		}
		for i := range len(kinds) {
			for kind, x := range of {
				if kind == kinds[i] || kinds[i] == '?' {
					continue
				}
				wrong := slices.Clone(args)
				wrong[i] = x
				if got := done(prim.New(api.World{}, 0), name, wrong); got != "stuck" {
					t.Errorf("%s %s: %s", name, told(block(0, wrong...)), got)
				}
			}
		}
	}
}
