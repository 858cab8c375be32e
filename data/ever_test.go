package data_test

import (
	"fmt"
	"math/rand"
	"slices"
	"strings"
	"testing"

	"smithy/api"
	"smithy/big"
	"smithy/data"
	"smithy/word"
	"smithy/world"
)

// P18.5: programs that go on for ever, keeping little, do so in any heap.
func TestForEver(t *testing.T) {
	t.Parallel()
	for what, l := range map[string]funs{
		"a tail":            {`tail f1`, `tail f1`},
		"two tails":         {`tail f1 1`, `1: tail f2 v0 v0`, `2: tail f1 v1`},
		"a count":           {`tail f1 4611686018427380000`, `1: let 1 = add v0 1; tail f1 v1`},
		"a cell":            {`let 0 = ref 1; tail f1 v0`, `1: let 1 = get v0; let 1 = add v1 1; let 2 = set v0 v1; tail f1 v0`},
		"texts":             {`tail f1 "a"`, `1: let 1 = cat v0 "b"; let 2 = substring v1 1 1; let 3 = size v1; let 3 = str #7; tail f1 v2`},
		"bytes":             {`tail f1`, `let 0 = bnew 3000; let 1 = bset v0 7 300; tail f1`},
		"a closure":         {`let 0 = closure f1 #0; let 1 = patch 0 v0 v0; go v0 1`, `2: let 2 = capture 0 v0; let 3 = add v1 1; go v2 v3`},
		"new closures":      {`let 0 = closure f1 #0; go v0 1`, `2: let 2 = closure f1 v1; go v2 v1`},
		"calls that answer": {`tail f1`, `let 0 = call f2 20; tail f1`, `1: let 1 = le v0 0; if v1 { ret 5 } { let 1 = sub v0 1; let 1 = call f2 v1; let 1 = add v1 v0; ret v1 }`},
		"raises":            {`tail f1`, `try { let 0 = div 1 0; ret 1 } catch 0 { ret v0 } then 1; tail f1`},
		"raises of calls":   {`tail f1`, `try { let 0 = call f2 9; ret 1 } catch 0 { let 1 = field 0 v0; ret v1 } then 1; tail f1`, `1: let 1 = le v0 0; if v1 { raise !3 } { let 1 = sub v0 1; let 1 = call f2 v1; ret v1 }`},
		"lists":             {`tail f1`, `let 0 = call f2 12 #0; let 1 = vector v0; let 1 = vlen v1; tail f1`, `2: let 2 = le v0 0; if v2 { ret v1 } { let 3 = block 0 v0 v1; let 3 = block 1 v3; let 4 = sub v0 1; tail f2 v4 v3 }`},
		"reals":             {`tail f1 %1`, `1: let 1 = radd v0 %0.5; let 2 = rfloor v1; let 2 = rbits v1; tail f1 v1`},
		"many arguments":    {`tail f1 1 2 3 4 5 6 7 8 9`, `9: let 9 = ref v0; let 9 = get v9; tail f1 v1 v2 v3 v4 v5 v6 v7 v8 v9`},
		"great integers":    {`tail f1 $most`, `1: let 1 = mod v0 12345678901234567890123; let 1 = mul v1 v1; let 1 = sub v0 v1; let 1 = div v1 3; let 1 = add v1 v1; let 1 = neg v1; let 1 = neg v1; tail f1 v0`},
		"a switch":          {`tail f1 #3`, `1: switch v0 3 { let 1 = block 70000 v0; tail f1 v1 } 70000 { tail f1 #3 } { ret 1 }`},
	} {
		p := programWith(t, given(), l...)
		for i, q := range []api.WordProgram{made(t, p), data.InParts(p, 3)} {
			for _, heap := range []uint64{least, least + 7, 1 << 20}[i:] {
				w := world.New(smallWorld())
				s, e := word.New(q, heap, i == 0, w)
				if e != api.OK {
					t.Fatal(e)
				}
				if st := s.Run(3_000_000); st != api.Running || len(w.Trace()) > 0 {
					t.Errorf("%s, heap %d: %d, code %d, %v", what, heap, st, s.Code(), w.Trace())
				}
			}
		}
	}
}

// P18.2: switches with tags of all kinds, of small numbers and of blocks.
func TestSwitchesAtRandom(t *testing.T) {
	t.Parallel()
	r := rand.New(rand.NewSource(5))
	tags := []int{0, 1, 2, 3, 4, 5, 6, 255, 256, 65534, 65535, 65536, 65537, 65538, 131072, 1 << 24, 1<<24 + 5, 1 << 29, 1<<30 - 2, 1<<30 - 1}
	for range 150 {
		all := slices.Clone(tags)
		for range r.Intn(200) {
			all = append(all, r.Intn([]int{100, 70000, 1 << 30}[r.Intn(3)]))
		}
		slices.Sort(all)
		all = slices.Compact(all)
		r.Shuffle(len(all), func(i, j int) { all[i], all[j] = all[j], all[i] })
		f := api.Flow{Kind: api.FlowSwitch, A: local(0)}
		for _, tag := range all[:r.Intn(len(all))] {
			f.Tags = append(f.Tags, tag)
			f.Kids = append(f.Kids, let(1, primOf("print", api.Atom{Kind: api.AtomText, Text: fmt.Sprint(tag, " ")}), ret(whole(1))))
		}
		f.Kids = append(f.Kids, let(1, primOf("print", api.Atom{Kind: api.AtomText, Text: "else "}), ret(whole(1))))
		asked := ret(whole(1))
		for _, tag := range append(all[:min(len(all), 40)], tags...) {
			for _, tag := range []int{tag, min(tag+1, 1<<30-1)} {
				asked = let(0, api.Op{Kind: api.OpCall, F: 1, Args: atoms{{Kind: api.AtomSmall, V: tag}}}, asked)
				asked = let(0, api.Op{Kind: api.OpBlock, N: tag}, let(0, api.Op{Kind: api.OpCall, F: 1, Args: atoms{local(0)}}, asked))
				asked = let(0, api.Op{Kind: api.OpBlock, N: tag, Args: atoms{whole(1)}}, let(0, api.Op{Kind: api.OpCall, F: 1, Args: atoms{local(0)}}, asked))
			}
		}
		p := api.Program{Funs: []api.Func{{Locals: 1, Body: asked}, {Params: 1, Locals: 2, Body: f}}}
		if !holdIn(t, p, smallWorld(), 1<<18) {
			t.Fatal("is stuck")
		}
	}
}

// P18.2: blocks of all tags are told apart by eq, and by their fields.
func TestTagsOfBlocks(t *testing.T) {
	t.Parallel()
	tags := []int{0, 1, 2, 65535, 65536, 65537, 1 << 20, 1<<30 - 1}
	f := ret(whole(1))
	for _, a := range tags {
		for _, b := range tags {
			for _, fields := range []atoms{nil, {whole(5)}} {
				show := api.Flow{Kind: api.FlowIf, A: local(2), Kids: kids{let(2, primOf("print", api.Atom{Kind: api.AtomText, Text: "="}), f), let(2, primOf("print", api.Atom{Kind: api.AtomText, Text: "/"}), f)}}
				if len(fields) > 0 {
					show = let(3, api.Op{Kind: api.OpField, Args: atoms{local(1)}}, let(3, primOf("itext", local(3)), let(3, primOf("print", local(3)), show)))
				}
				p := one(4, let(0, api.Op{Kind: api.OpBlock, N: a, Args: fields}, let(1, api.Op{Kind: api.OpBlock, N: b, Args: fields}, let(2, primOf("eq", local(0), local(1)), show))))
				holdEnd(t, p, smallWorld())
			}
		}
	}
}

// P18.2: constants at the edges of how they lie in memory.
func TestConstants(t *testing.T) {
	t.Parallel()
	show := func(op api.Op, by ...string) {
		f := let(0, primOf("print", local(0)), ret(whole(1)))
		for i := len(by) - 1; i >= 0; i-- {
			f = let(0, primOf(by[i], local(0)), f)
		}
		holdEnd(t, one(1, let(0, op, f)), smallWorld())
	}
	atom := func(a api.Atom) api.Op { return api.Op{Kind: api.OpAtom, Args: atoms{a}} }
	for _, bits := range []int{0, 1, 30, 31, 32, 33, 60, 61, 62, 63, 64, 65, 95, 96, 97, 128, 1000} {
		x := big.Of(1)
		for range bits {
			x = big.Add(x, x)
		}
		for d := int64(-2); d <= 2; d++ {
			for _, y := range []api.Int{big.Add(x, big.Of(d)), big.Neg(big.Add(x, big.Of(d)))} {
				a := api.Atom{Kind: api.AtomInt, Int: y}
				show(atom(a), "itext")
				show(primOf("add", a, whole(1)), "itext")
				less := api.Atom{Kind: api.AtomInt, Int: big.Sub(y, big.Of(1))}
				same := let(0, primOf("add", less, whole(1)), let(0, primOf("eq", a, local(0)), let(0, primOf("ord", local(0)), let(0, primOf("itext", local(0)), let(0, primOf("print", local(0)), ret(whole(1)))))))
				holdIn(t, one(1, same), smallWorld(), 1<<17)
			}
		}
	}
	for _, n := range []int{0, 1, 2, 6, 7, 8, 9, 15, 16, 17, 100, 65535, 65536} {
		show(atom(api.Atom{Kind: api.AtomText, Text: strings.Repeat("\x00\xffa", n)[:n]}))
		show(atom(api.Atom{Kind: api.AtomText, Text: strings.Repeat("b", n)}), "size", "itext")
	}
	for _, n := range []int{0, 1, 255, 256, 65535, 65536, 1<<30 - 1} {
		show(atom(api.Atom{Kind: api.AtomSmall, V: n}), "ord", "itext")
	}
	// texts and integers that stand twice
	same := api.Atom{Kind: api.AtomText, Text: "twice"}
	great := api.Atom{Kind: api.AtomInt, Int: api.Int{Mag: []uint32{1, 2, 3}}}
	less := api.Atom{Kind: api.AtomInt, Int: api.Int{Neg: true, Mag: []uint32{1, 2, 3}}}
	show(primOf("cat", same, same))
	show(primOf("add", great, great), "itext")
	show(primOf("sub", great, less), "itext")
	show(primOf("add", great, less), "itext")
}
