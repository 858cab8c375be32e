package close_test

import (
	"math"
	"slices"
	"strings"
	"testing"

	"smithy/api"
	"smithy/big"
	"smithy/flow"
)

// limbs is the greatest integer of so many limbs.
func limbs(many int) api.Core {
	return api.Core{Kind: api.CoreInt, Int: api.Int{Mag: slices.Repeat([]uint32{math.MaxUint32}, many)}}
}

func real(bits uint64) api.Core { return api.Core{Kind: api.CoreReal, Bits: bits} }

func word(text string) api.Core { return api.Core{Kind: api.CoreText, Text: text} }

func whole(n int) api.Core { return api.Core{Kind: api.CoreInt, Int: big.Of(int64(n))} }

func small(n int) api.Core { return api.Core{Kind: api.CoreSmall, N: n} }

func name(x string) api.Core { return api.Core{Kind: api.CoreVar, Name: x} }

func fn(x string, c api.Core) api.Core { return node(api.CoreFn, x, c) }

func prims(name string, l ...api.Core) api.Core {
	return api.Core{Kind: api.CorePrim, Name: name, Kids: l}
}

func tagged(tag int, l ...api.Core) api.Core {
	return api.Core{Kind: api.CoreBlock, N: tag, Kids: l}
}

func node(kind int, name string, l ...api.Core) api.Core {
	return api.Core{Kind: kind, Name: name, Kids: l}
}

// given are terms that are too great to be written, or have no text.
func given() map[string]api.Core {
	return map[string]api.Core{
		"most": limbs(api.MaxLimbs), "more": limbs(api.MaxLimbs + 1), "half": limbs(api.MaxLimbs / 2), "text": word(strings.Repeat("t", api.MaxString)), "middle": word(strings.Repeat("t", api.MaxString/2)), "256": word(strings.Repeat("n", 256)),
		"inf": real(0x7FF0000000000000), "-inf": real(0xFFF0000000000000), "nan": real(0x7FF8000000000000), "odd": real(0xFFF0000000000001), "-0": real(1 << 63),
	}
}

// Each primitive, with what it answers and what it raises: its arguments as they stand, in names, and captured by a function that
// is known, or that is not; its answer where it goes on, and where it is what a function returns.
func TestPrimitives(t *testing.T) {
	const list = `[1 [0 "a" [1 [0 "b" #0]]]]`
	rows := []string{
		`add 2 3`, `add $most 1`, `sub 2 3`, `sub 0 $more`, `mul ~4 3`, `mul $half $most`, `neg 7`, `neg $more`, `div 7 2`, `div 7 0`, `mod ~7 2`, `mod 1 0`, `lt 1 2`, `le 3 2`,
		`radd %0.1 %0.2`, `rsub %1 %1`, `rmul %-1 %0`, `rdiv %1 $-0`, `rneg $odd`, `rlt $nan %1`, `rle $-0 %0`, `rfromint 9007199254740993`, `rfloor %-2.5`, `rfloor $inf`, `rbits $odd`, `itext ~12`,
		`cat "ab" "c"`, `cat $text "a"`, `size "abc"`, `ssub "abc" 2`, `ssub "abc" 3`, `substring "abc" 1 2`, `substring "abc" 2 2`, `slt "a" "ab"`, `sle "b" "ab"`, `clt #1 #2`, `cle #3 #2`, `chr 65`, `chr 256`, `ord #65`, `str #65`,
		`eq 1 1`, `eq [1 2] [1 3]`, `eq #1 [1]`, `eq !2 !2`, `ref 7`, `get !3`, `set (ref 7) 8`, `same !0 !0`, `vector ` + list, `vlen (vector ` + list + `)`, `vsub (vector ` + list + `) 1`, `vsub (vector ` + list + `) 2`,
		`bnew 3`, `bnew ~1`, `blen (bnew 4)`, `bget (bnew 3) 2`, `bget (bnew 3) 3`, `bset (bnew 3) 1 300`, `bset (bnew 3) 3 1`, `print "out"`, `eprint "err"`, `inputline [0]`, `readfile "f"`, `readfile "none"`, `writefile "g" "data"`, `writefile "" "data"`, `exit 3`,
		`add 1 "a"`, `get 1`, `eq (fn x x) (fn x x)`, `eq 1 "a"`, `vlen #0`, `exit %1`,
	}
	met := map[string]int{}
	for _, r := range rows {
		args := termWith(t, "("+r+")", given())
		met[args.Name]++
		for _, c := range spread(args) {
			c = node(api.CoreLet, "seen", prims("ref", whole(0)), c)
			p := made(t, c)
			for _, w := range worlds() {
				alike(t, c, p, w, 60, 1100, api.MaxFuel)
			}
		}
	}
	for name := range flow.Prims() {
		if met[name] == 0 {
			t.Errorf("%s is not held", name)
		}
	}
}

// spread are terms that do a primitive in several places. What it answers is told as far as its kind may be.
func spread(c api.Core) []api.Core {
	names := c
	names.Kids = slices.Clone(c.Kids)
	for i := range names.Kids {
		names.Kids[i] = name(string(rune('p' + i)))
	}
	bound := func(inner api.Core) api.Core {
		for i, kid := range slices.Backward(c.Kids) {
			inner = node(api.CoreLet, string(rune('p'+i)), kid, inner)
		}
		return inner
	}
	caught := func(inner api.Core) api.Core {
		return node(api.CoreHandle, "x", inner, prims("print", prims("get", api.Core{Kind: api.CoreField, Kids: []api.Core{name("x")}})))
	}
	told := func(inner api.Core) api.Core {
		return caught(node(api.CoreLet, "v", inner, tagged(0, prims("set", name("seen"), tagged(1, name("v"))), ask(c.Name))))
	}
	apply := func(f api.Core) api.Core { return node(api.CoreApp, "", f, whole(0)) }
	return []api.Core{
		c, caught(c), told(c), told(bound(names)), told(bound(apply(prims("get", prims("ref", fn("u", names)))))), told(bound(node(api.CoreLet, "f", fn("u", names), apply(name("f"))))),
		told(bound(node(api.CoreIf, "", small(1), names, names))),
	}
}

// ask is a term that tells the value v, which a primitive has answered.
func ask(primitive string) api.Core {
	v := name("v")
	switch primitive {
	case "add", "sub", "mul", "neg", "div", "mod", "rfloor", "rbits", "size", "ord", "vlen", "blen", "bget":
		return prims("print", prims("itext", v))
	case "radd", "rsub", "rmul", "rdiv", "rneg", "rfromint":
		return prims("print", prims("itext", prims("rbits", v)))
	case "itext", "cat", "substring", "str", "get", "vsub", "inputline", "readfile":
		return prims("print", v)
	case "lt", "le", "rlt", "rle", "slt", "sle", "clt", "cle", "eq", "same", "ssub", "chr":
		return prims("print", prims("itext", prims("ord", v)))
	case "ref":
		return prims("print", prims("itext", prims("get", v)))
	case "vector":
		return prims("print", prims("vsub", v, whole(1)))
	case "bnew":
		return prims("print", prims("itext", prims("blen", v)))
	}
	return prims("print", prims("str", prims("eq", v, tagged(0))))
}
