package bigrt

import (
	"math"
	"math/rand/v2"
	"strconv"
	"strings"

	"smithy/api"
	"smithy/big"
)

// limited is an integer that is answered, or else Size.
func limited(n api.Int) (value, int) {
	if len(n.Mag) > api.MaxLimbs {
		return value{}, api.ExnSize
	}
	return integer(n), none
}

// ofTwo is what a function of two integers should answer, or raise.
func ofTwo(name string, a, b api.Int) (value, int) {
	switch name {
	case "int.add":
		return limited(big.Add(a, b))
	case "int.sub":
		return limited(big.Sub(a, b))
	case "int.mul":
		return limited(big.Mul(a, b))
	case "int.div", "int.mod":
		q, r, e := big.DivMod(a, b)
		switch {
		case e != api.OK:
			return value{}, api.ExnDiv
		case name == "int.div":
			return limited(q)
		}
		return limited(r)
	case "int.lt":
		return truth(big.Cmp(a, b) < 0), none
	case "int.le":
		return truth(big.Cmp(a, b) <= 0), none
	}
	return truth(big.Cmp(a, b) == 0), none
}

// twos are the functions of two integers, ones those of one.
func twos() []string {
	return []string{"int.add", "int.sub", "int.mul", "int.div", "int.mod", "int.lt", "int.le", "int.same"}
}

func ones() []string { return []string{"int.neg", "int.text", "int.real"} }

// ofOne is what a function of one integer should answer, or raise. The reals are those that package strconv reads.
func ofOne(name string, a api.Int) (value, int) {
	switch name {
	case "int.neg":
		return limited(big.Neg(a))
	case "int.text":
		return textOf(big.Text(a)), none
	}
	x, _ := strconv.ParseFloat(strings.Replace(big.Text(a), "~", "-", 1), 64)
	return realOf(math.Float64bits(x)), none
}

// ofReal is what real.floor and real.bits should answer, or raise, of a real's bits.
func ofReal(name string, bits uint64) (value, int) {
	x := math.Float64frombits(bits)
	nan := math.IsNaN(x)
	switch {
	case name == "real.floor" && (nan || math.IsInf(x, 0)):
		return value{}, api.ExnDomain
	case name == "real.floor":
		s := strconv.FormatFloat(math.Floor(x)+0, 'f', 0, 64) // no -0
		n, _ := big.Parse(strings.Replace(s, "-", "~", 1))
		return integer(n), none
	case nan:
		bits = 0x7ff8000000000000
	}
	return integer(big.Norm(api.Int{Mag: []uint32{uint32(bits), uint32(bits >> 32)}})), none
}

// two holds all functions of two integers against package big, one those of one, and real those of reals.
func (b *bench) two(x, y value) {
	for _, name := range twos() {
		want, raises := ofTwo(name, x.int(), y.int())
		b.is(want, raises, name, x, y)
	}
}

func (b *bench) one(x value) {
	for _, name := range ones() {
		want, raises := ofOne(name, x.int())
		b.is(want, raises, name, x)
	}
}

func (b *bench) real(bits uint64) {
	for _, name := range []string{"real.floor", "real.bits"} {
		want, raises := ofReal(name, bits)
		b.is(want, raises, name, realOf(bits))
	}
}

// random is an integer of n limbs: these are any, or 0 and 1 and the greatest ones, or runs of 0 and of the greatest ones.
func random(r *rand.Rand, n int) api.Int {
	out := api.Int{Neg: r.IntN(2) == 1, Mag: make([]uint32, n)}
	run, how := uint32(0), r.IntN(4)
	for i := range out.Mag {
		if r.IntN(5) == 0 {
			run = ^run
		}
		out.Mag[i] = [4]uint32{r.Uint32(), run, [6]uint32{0, 0, 1, math.MaxUint32, math.MaxUint32, math.MaxUint32 - 1}[r.IntN(6)], r.Uint32() >> r.IntN(32)}[how]
	}
	if n > 0 && out.Mag[n-1] == 0 {
		out.Mag[n-1] = [4]uint32{1, 1 << 31, math.MaxUint32, r.Uint32() | 1}[r.IntN(4)]
	}
	return big.Norm(out)
}

// signed are n and its opposite.
func signed(n api.Int) []api.Int { return []api.Int{n, big.Neg(n)} }
