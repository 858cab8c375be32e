package data_test

import (
	"math/rand/v2"
	"testing"

	"smithy/api"
)

// P18.2: integers that a program has itself may be of any size; what primitives do of them.
func TestGreatIntegers(t *testing.T) {
	t.Parallel()
	r := rand.New(rand.NewPCG(1, 18))
	limbs := func(many int) api.Int {
		var x api.Int
		for range many {
			x.Mag = append(x.Mag, []uint32{r.Uint32(), 0, 1<<32 - 1}[r.IntN(3)])
		}
		x.Mag = append(x.Mag, 1+r.Uint32()>>r.IntN(32))
		x.Neg = r.IntN(2) == 0
		return x
	}
	const show = `let 1 = itext v0; let 1 = print v1; ret 1`
	for _, many := range []int{1023, 1024, 4500} {
		x := limbs(many)
		y := limbs(many - 900)
		told := map[string]api.Atom{"x": {Kind: api.AtomInt, Int: x}, "z": {Kind: api.AtomInt, Int: limbs(many + 5)}, "y": {Kind: api.AtomInt, Int: y}, "-": {Kind: api.AtomInt, Int: api.Int{Neg: !x.Neg, Mag: append([]uint32{x.Mag[0] ^ 5}, x.Mag[1:]...)}}}
		for _, op := range []string{
			`add $x $y`, `add $x $-`, `sub $x $x`, `sub $x $z`, `mul $x $y`, `mul $x 0`, `mul $x 1`, `div $x $y`, `div $y $x`, `div $x $-`, `div $z $x`, `div $x 7`, `div $x 0`, `mod $x 1000003`, `mod $x $y`, `mod $x $z`, `mod $x $-`, `neg $x`, `rfloor %1.5`, `size "a"`, `blen v2`, `exit $x`,
		} {
			holdIn(t, programWith(t, told, `let 2 = bnew 3; let 0 = `+op+`; `+show), smallWorld(), ample)
		}
		for _, op := range []string{`lt $x $y`, `lt $x $z`, `le $x $-`, `le $x $x`, `eq $x $x`, `eq $x $-`, `eq $x $z`} {
			holdIn(t, programWith(t, told, `let 0 = `+op+`; let 0 = ord v0; `+show), smallWorld(), ample)
		}
		for _, op := range []string{`ssub "abc" $x`, `substring "abc" $x 1`, `substring "abc" 0 $x`, `chr $x`, `bnew $x`, `bget v2 $x`, `bset v2 $x 1`, `vsub v3 $x`} {
			holdIn(t, programWith(t, told, `let 2 = bnew 3; let 3 = vector #0; let 0 = `+op+`; ret 1`), smallWorld(), ample)
		}
		holdIn(t, programWith(t, told, `let 2 = bnew 3; let 0 = bset v2 1 $x; let 0 = bget v2 1; `+show), smallWorld(), ample)
		holdIn(t, programWith(t, told, `let 0 = rfromint $x; let 0 = rbits v0; `+show), smallWorld(), ample)
	}
}
