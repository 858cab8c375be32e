package prim

import (
	"math"
	"math/bits"

	"smithy/api"
	"smithy/big"
)

// integers are the primitives of integers.
func integers() map[string]Primitive {
	return map[string]Primitive{
		"add": two(func(r *Run, a, b api.Int) Value { return r.integer(big.Add(a, b)) }),
		"sub": two(func(r *Run, a, b api.Int) Value { return r.integer(big.Sub(a, b)) }),
		"mul": two((*Run).product),
		"neg": one(func(r *Run, a api.Int) Value { return r.integer(big.Neg(a)) }),
		"div": two((*Run).quotient),
		"mod": two(func(r *Run, a, b api.Int) Value {
			_, rest := r.divided(a, b)
			return r.integer(rest)
		}),
		"lt":    two(func(_ *Run, a, b api.Int) Value { return Truth(big.Cmp(a, b) < 0) }),
		"le":    two(func(_ *Run, a, b api.Int) Value { return Truth(big.Cmp(a, b) <= 0) }),
		"itext": one((*Run).digits),
	}
}

// product is not worked out where it must have too many limbs: it has as many as both have, or one less.
func (r *Run) product(a, b api.Int) Value {
	if big.Sign(a) != 0 && big.Sign(b) != 0 && len(a.Mag)+len(b.Mag)-1 > api.MaxLimbs {
		return r.RaiseBuiltIn(api.ExnSize)
	}
	return r.integer(big.Mul(a, b))
}

// quotient is not worked out where it must have too many limbs: it has as many as a has more than b, or one more.
func (r *Run) quotient(a, b api.Int) Value {
	if big.Sign(b) != 0 && len(a.Mag)-len(b.Mag) > api.MaxLimbs {
		return r.RaiseBuiltIn(api.ExnSize)
	}
	q, _ := r.divided(a, b)
	return r.integer(q)
}

func (r *Run) divided(a, b api.Int) (q, rest api.Int) {
	q, rest, e := big.DivMod(a, b)
	if e != api.OK {
		r.RaiseBuiltIn(api.ExnDiv)
	}
	return q, rest
}

// digits is the text of an integer. That is not worked out where it must be too long: it would take long, and cost nothing.
func (r *Run) digits(a api.Int) Value {
	if leastDigits(a.Mag) > api.MaxString {
		return r.RaiseBuiltIn(api.ExnSize)
	}
	return r.text(big.Text(a))
}

// leastDigits is how many decimal digits a magnitude has at least: as many as the power of two that its first bit stands for,
// by the logarithm of 2, cut off.
func leastDigits(mag []uint32) int {
	n := len(mag)
	if n == 0 {
		return 1
	}
	exponent := 32*(n-1) + bits.Len32(mag[n-1]) - 1
	return exponent*30102999/100000000 + 1
}

// reals are the primitives of reals.
func reals() map[string]Primitive {
	return map[string]Primitive{
		"radd":     two(func(_ *Run, x, y Real) Value { return realOf(x.float() + y.float()) }),
		"rsub":     two(func(_ *Run, x, y Real) Value { return realOf(x.float() - y.float()) }),
		"rmul":     two(func(_ *Run, x, y Real) Value { return realOf(x.float() * y.float()) }),
		"rdiv":     two(func(_ *Run, x, y Real) Value { return realOf(x.float() / y.float()) }),
		"rneg":     one(func(_ *Run, x Real) Value { return x ^ signBit }),
		"rlt":      two(func(_ *Run, x, y Real) Value { return Truth(x.float() < y.float()) }),
		"rle":      two(func(_ *Run, x, y Real) Value { return Truth(x.float() <= y.float()) }),
		"rfromint": one(func(_ *Run, a api.Int) Value { return realOf(nearest(a)) }),
		"rfloor":   one((*Run).floor),
		"rbits":    one(func(r *Run, x Real) Value { return r.integer(x.told()) }),
	}
}

// Parts of a real's bits.
const (
	signBit      = 1 << 63
	notANumber   = 0x7FF8000000000000
	fractionBits = 52
	bias         = 1023
)

func realOf(f float64) Real { return Real(math.Float64bits(f)) }

func (x Real) float() float64 { return math.Float64frombits(uint64(x)) }

// told is an integer of a real's bits: all that are no number tell the same.
func (x Real) told() api.Int {
	if math.IsNaN(x.float()) {
		x = notANumber
	}
	return big.Norm(api.Int{Mag: []uint32{uint32(x), uint32(x >> 32)}})
}

// nearest is the real that is nearest to an integer, of two the even one.
func nearest(a api.Int) float64 {
	top, exponent := leading(big.Norm(a).Mag)
	f := math.Ldexp(float64(top), exponent)
	if big.Sign(a) < 0 {
		return -f
	}
	return f
}

// leading are the first bits of a magnitude, as many as 64, and the power of two that they stand before. If something other
// than noughts stands behind them their last one is 1: it lies far behind what a real has room for, and only says that
// they are not the middle of two reals.
func leading(mag []uint32) (top uint64, exponent int) {
	n := len(mag)
	if n <= 2 {
		for i, limb := range mag {
			top |= uint64(limb) << (32 * i)
		}
		return top, 0
	}
	ahead := bits.LeadingZeros32(mag[n-1])
	top = uint64(mag[n-1])<<32 | uint64(mag[n-2])
	top = top<<ahead | uint64(mag[n-3])>>(32-ahead)
	behind := mag[n-3] << ahead
	for _, limb := range mag[:n-3] {
		behind |= limb
	}
	if behind != 0 {
		top |= 1
	}
	return top, 32*(n-2) - ahead
}

// floor is the greatest integer that is not above x.
func (r *Run) floor(x Real) Value {
	f := math.Floor(x.float())
	switch {
	case math.IsNaN(f) || math.IsInf(f, 0):
		return r.RaiseBuiltIn(api.ExnDomain)
	case math.Abs(f) < 1<<62:
		return r.integer(big.Of(int64(f)))
	}
	exact := math.Float64bits(math.Abs(f))
	shift := int(exact>>fractionBits) - bias - fractionBits
	fraction := int64(exact&(1<<fractionBits-1) | 1<<fractionBits)
	power := api.Int{Neg: f < 0, Mag: make([]uint32, shift/32+1)}
	power.Mag[shift/32] = 1 << (shift % 32)
	return r.integer(big.Mul(big.Of(fraction), power))
}
