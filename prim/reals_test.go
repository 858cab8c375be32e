package prim_test

import (
	"math"
	"math/rand"
	"testing"

	"smithy/api"
	"smithy/big"
	"smithy/prim"
)

// exactly is a real that is no fraction, as an integer, by doubling.
func exactly(f float64) api.Int {
	digits := 0
	for math.Abs(f) >= 1<<53 {
		f /= 2
		digits++
	}
	a := big.Of(int64(f))
	for range digits {
		a = big.Add(a, a)
	}
	return a
}

func fromInt(a api.Int) float64 {
	x := prim.Primitives()["rfromint"].Do(prim.New(api.World{}, 0), v{a})
	return math.Float64frombits(uint64(x.(prim.Real)))
}

// beyond is the least magnitude whose nearest real is an infinity: half a place above the greatest real.
func beyond() api.Int {
	greatest := math.MaxFloat64
	return big.Add(exactly(greatest), exactly(math.Ldexp(1, 1023-53)))
}

// isNearest tells whether f is the real that is nearest to a, of two the even one: from the reals beside it, with integers.
func isNearest(a api.Int, f float64) bool {
	if math.IsInf(f, 0) {
		return big.Cmp(big.Abs(a), beyond()) >= 0 && (f < 0) == (big.Sign(a) < 0)
	}
	away := big.Abs(big.Sub(a, exactly(f)))
	for _, side := range []float64{math.Inf(-1), math.Inf(1)} {
		g := math.Nextafter(f, side)
		if math.IsInf(g, 0) {
			if big.Cmp(big.Abs(a), beyond()) >= 0 {
				return false
			}
			continue
		}
		if g != math.Trunc(g) {
			continue // a fraction of an integer is no nearer than the integer
		}
		c := big.Cmp(away, big.Abs(big.Sub(a, exactly(g))))
		if c > 0 || c == 0 && math.Float64bits(f)&1 == 1 {
			return false
		}
	}
	return true
}

func TestNearest(t *testing.T) {
	rnd := rand.New(rand.NewSource(6))
	var all []api.Int
	for _, f := range []float64{0, 1, 1<<53 - 1, 1 << 53, 1<<53 + 2, 1 << 63, 1 << 64, 1e22, 1e100, 0x1.8p200, 0x1.fffffffffffffp300, math.MaxFloat64, math.Ldexp(1, 1023)} {
		all = append(all, exactly(f))
		if f >= 1<<53 {
			g := math.Nextafter(f, 0)
			middle, _, _ := big.DivMod(big.Add(exactly(f), exactly(g)), big.Of(2))
			all = append(all, middle)
		}
	}
	for _, a := range []string{"9007199254740993", "9007199254740995", "18446744073709551615", "18446744073709549568", "18446744073709549569", "36893488147419103231", "9223372036854775807", "9223372036854776832", "9223372036854776833"} {
		all = append(all, huge(a).(api.Int))
	}
	all = append(all, beyond())
	for range 1500 {
		mag := make([]uint32, 1+rnd.Intn(34))
		for i := range mag {
			mag[i] = []uint32{rnd.Uint32(), 0, math.MaxUint32, 1 << rnd.Intn(32)}[rnd.Intn(4)]
		}
		all = append(all, big.Norm(api.Int{Mag: mag}))
	}
	infinite := 0
	for _, a := range all {
		for _, near := range []int64{-1, 0, 1} {
			b := big.Add(a, big.Of(near))
			for _, b := range []api.Int{b, big.Neg(b)} {
				f := fromInt(b)
				if !isNearest(b, f) {
					t.Errorf("%s: %v", big.Text(b), f)
				}
				if math.IsInf(f, 0) {
					infinite++
				}
			}
		}
	}
	if infinite < 50 {
		t.Errorf("%d infinities", infinite)
	}
	if f := fromInt(big.Of(0)); f != 0 || math.Signbit(f) {
		t.Errorf("0: %v", f)
	}
	if f := fromInt(limbs(api.MaxLimbs, true).(api.Int)); !math.IsInf(f, -1) {
		t.Errorf("%v", f)
	}
}

func TestFloor(t *testing.T) {
	rnd := rand.New(rand.NewSource(7))
	floor := func(f float64) api.Int {
		return prim.Primitives()["rfloor"].Do(prim.New(api.World{}, 9), v{real(f)}).(api.Int)
	}
	for range 5000 {
		f := math.Float64frombits(rnd.Uint64())
		if rnd.Intn(2) == 0 {
			f = math.Ldexp(1+rnd.Float64(), rnd.Intn(130)-10)
		}
		for _, f := range []float64{f, -f, math.Trunc(f), math.Nextafter(math.Trunc(f), 0)} {
			if math.IsNaN(f) || math.IsInf(f, 0) {
				continue
			}
			if a := floor(f); big.Cmp(a, exactly(math.Floor(f))) != 0 || !big.Valid(a) {
				t.Errorf("%v: %s", f, big.Text(a))
			}
		}
	}
	for _, f := range []float64{1 << 53, 1<<62 - 1<<9, 1 << 62, 1<<62 + 1<<10, 1<<63 - 1<<10, 1 << 63, 1<<63 + 1<<11, 1 << 64, math.MaxFloat64} {
		for _, f := range []float64{f, -f} {
			if a := floor(f); big.Cmp(a, exactly(f)) != 0 || fromInt(a) != f {
				t.Errorf("%v: %s", f, big.Text(a))
			}
		}
	}
}
