package big_test

import (
	"math"
	"math/rand"
	"strconv"
	"strings"
	"testing"

	"smithy/api"
	"smithy/big"
)

// stands tells whether a number stands as it should, by the words of the document.
func stands(a api.Int) bool {
	if len(a.Mag) == 0 {
		return a.Mag == nil && !a.Neg
	}
	return a.Mag[len(a.Mag)-1] != 0
}

// check holds an answer against the text of the number that it should be.
func check(t *testing.T, what string, got api.Int, want string) {
	t.Helper()
	if !stands(got) {
		t.Errorf("%s = %v: not as it should stand", what, got)
	}
	if says(got) != want {
		t.Errorf("%s = %s, want %s", what, says(got), want)
	}
}

func ofInt64(n int64) string { return strings.Replace(strconv.FormatInt(n, 10), "-", "~", 1) }

func edges() []int64 {
	return []int64{0, 1, -1, 7, -7, 1<<32 - 1, 1 << 32, -1 << 32, 1<<32 + 1, 1 << 62, math.MaxInt64, math.MaxInt64 - 1, -math.MaxInt64, math.MinInt64}
}

// P1.1

func TestOf(t *testing.T) {
	for _, n := range edges() {
		check(t, "Of("+ofInt64(n)+")", big.Of(n), ofInt64(n))
	}
}

func TestNorm(t *testing.T) {
	for _, a := range samples() {
		check(t, "Norm", big.Norm(a), says(a))
	}
	if x := big.Norm(api.Int{Neg: true, Mag: []uint32{5, 0}}); !x.Neg || len(x.Mag) != 1 || x.Mag[0] != 5 {
		t.Errorf("Norm(-5) = %v", x)
	}
}

func TestValid(t *testing.T) {
	for _, x := range []struct {
		a    api.Int
		want bool
	}{
		{api.Int{}, true},
		{api.Int{Mag: []uint32{}}, true},
		{api.Int{Neg: true}, false},
		{api.Int{Neg: true, Mag: []uint32{}}, false},
		{api.Int{Mag: []uint32{0}}, false},
		{api.Int{Neg: true, Mag: []uint32{0}}, false},
		{api.Int{Mag: []uint32{5}}, true},
		{api.Int{Neg: true, Mag: []uint32{5}}, true},
		{api.Int{Mag: []uint32{5, 0}}, false},
		{api.Int{Mag: []uint32{0, 5}}, true},
		{api.Int{Neg: true, Mag: []uint32{1, 2, 0, 0}}, false},
		{api.Int{Neg: true, Mag: []uint32{1, 0, 0, 2}}, true},
	} {
		if big.Valid(x.a) != x.want {
			t.Errorf("Valid(%v) = %v", x.a, !x.want)
		}
	}
}

func TestInt64(t *testing.T) {
	for _, n := range edges() {
		if x, ok := big.Int64(big.Of(n)); x != n || !ok {
			t.Errorf("Int64(%d) = %d, %v", n, x, ok)
		}
	}
	for _, x := range []struct {
		a    api.Int
		want int64
		ok   bool
	}{
		{api.Int{Neg: true}, 0, true},
		{api.Int{Neg: true, Mag: []uint32{0, 0, 0}}, 0, true},
		{api.Int{Mag: []uint32{5, 0, 0, 0}}, 5, true},
		{api.Int{Neg: true, Mag: []uint32{5, 0, 0, 0}}, -5, true},
		{api.Int{Mag: []uint32{1<<32 - 1, 1<<31 - 1, 0}}, math.MaxInt64, true},
		{api.Int{Neg: true, Mag: []uint32{0, 1 << 31, 0}}, math.MinInt64, true},
		{api.Int{Mag: []uint32{0, 1 << 31}}, 0, false},
		{api.Int{Neg: true, Mag: []uint32{1, 1 << 31}}, 0, false},
		{api.Int{Mag: []uint32{1<<32 - 1, 1<<32 - 1}}, 0, false},
		{api.Int{Mag: []uint32{0, 0, 1}}, 0, false},
		{api.Int{Neg: true, Mag: []uint32{7, 0, 0, 1}}, 0, false},
	} {
		if n, ok := big.Int64(x.a); n != x.want || ok != x.ok {
			t.Errorf("Int64(%v) = %d, %v", x.a, n, ok)
		}
	}
}

// P1.2

func TestOfOne(t *testing.T) {
	for _, a := range samples() {
		s := says(a)
		if big.Sign(a) != signOf(s) {
			t.Errorf("Sign(%s) = %d", s, big.Sign(a))
		}
		check(t, "Neg("+s+")", big.Neg(a), opposite(s))
		check(t, "Abs("+s+")", big.Abs(a), strings.TrimPrefix(s, "~"))
	}
}

func TestOfTwo(t *testing.T) {
	for _, a := range samples() {
		for _, b := range samples() {
			s, u := says(a), says(b)
			if big.Cmp(a, b) != signOf(minus(s, u)) {
				t.Errorf("Cmp(%s, %s) = %d", s, u, big.Cmp(a, b))
			}
			check(t, "Add("+s+", "+u+")", big.Add(a, b), plus(s, u))
			check(t, "Sub("+s+", "+u+")", big.Sub(a, b), minus(s, u))
			check(t, "Mul("+s+", "+u+")", big.Mul(a, b), times(s, u))
		}
	}
}

// P1.3

func checkDivMod(t *testing.T, a, b api.Int) {
	t.Helper()
	s, u := says(a), says(b)
	q, r, e := big.DivMod(a, b)
	if u == "0" {
		if e != api.ErrZero || q.Neg || q.Mag != nil || r.Neg || r.Mag != nil {
			t.Errorf("DivMod(%s, 0) = %v, %v, %d", s, q, r, e)
		}
		return
	}
	if e != api.OK || !stands(q) || !stands(r) {
		t.Errorf("DivMod(%s, %s) = %v, %v, %d", s, u, q, r, e)
	}
	x, y := says(q), says(r)
	if plus(times(x, u), y) != s {
		t.Errorf("DivMod(%s, %s) = %s, %s: not a", s, u, x, y)
	}
	// The quotient is cut downwards just if the rest is on b's side of 0, and nearer to it than b.
	if y != "0" && signOf(y) != signOf(u) || signOf(minus(u, y)) != signOf(u) {
		t.Errorf("DivMod(%s, %s) = %s, %s: the rest", s, u, x, y)
	}
}

func TestDivMod(t *testing.T) {
	for _, a := range samples() {
		for _, b := range samples() {
			checkDivMod(t, a, b)
		}
	}
}

func TestDivModSigns(t *testing.T) {
	for _, x := range [][4]int64{
		{7, 2, 3, 1}, {-7, 2, -4, 1}, {7, -2, -4, -1}, {-7, -2, 3, -1},
		{6, 2, 3, 0}, {-6, 2, -3, 0}, {6, -2, -3, 0}, {-6, -2, 3, 0},
		{1, 2, 0, 1}, {-1, 2, -1, 1}, {1, -2, -1, -1}, {-1, -2, 0, -1},
		{0, 5, 0, 0}, {0, -5, 0, 0},
	} {
		q, r, e := big.DivMod(big.Of(x[0]), big.Of(x[1]))
		if e != api.OK {
			t.Errorf("DivMod(%d, %d): %d", x[0], x[1], e)
		}
		check(t, "quotient", q, ofInt64(x[2]))
		check(t, "rest", r, ofInt64(x[3]))
	}
}

// A quotient's limb that is guessed too great is rare: multiples of b, and their neighbours, with limbs at their edges, make it come up.
func TestDivModNearMultiples(t *testing.T) {
	r := rand.New(rand.NewSource(2))
	edgy := func(n int) api.Int {
		mag := make([]uint32, n)
		for i := range mag {
			mag[i] = []uint32{0, 1, 1<<31 - 1, 1 << 31, 1<<31 + 1, 1<<32 - 1, r.Uint32()}[r.Intn(7)]
		}
		return api.Int{Neg: r.Intn(2) == 0, Mag: mag}
	}
	for range 1500 {
		b := edgy(1 + r.Intn(5))
		a := big.Add(big.Mul(b, edgy(1+r.Intn(4))), big.Of(int64(r.Intn(3)-1)))
		checkDivMod(t, a, b)
		checkDivMod(t, edgy(2+r.Intn(6)), b)
	}
}

// P1.5

func TestText(t *testing.T) {
	for _, a := range samples() {
		if big.Text(a) != says(a) {
			t.Errorf("Text(%v) = %s", a, big.Text(a))
		}
	}
	for _, n := range edges() {
		if big.Text(big.Of(n)) != ofInt64(n) {
			t.Errorf("Text(%d) = %s", n, big.Text(big.Of(n)))
		}
	}
}

func TestParse(t *testing.T) {
	texts := []string{"0", "1", "~1", "9", "~12", "10", "100000000", "999999999", "1000000000", "~4294967296", "4294967295", "1000000000000000000", "999999999999999999999999999",
		strings.Repeat("7", 2000), "~" + strings.Repeat("9", 2001), "1" + strings.Repeat("0", 500), "~10203" + strings.Repeat("0", 27)}
	for _, s := range texts {
		a, e := big.Parse(s)
		if e != api.OK {
			t.Errorf("Parse(%q): %d", s, e)
		}
		check(t, "Parse("+s+")", a, s)
	}
}

func TestParseRefuses(t *testing.T) {
	texts := []string{"", "~", "~0", "~00", "00", "07", "~07", "000000000000", "-1", "+1", "~~1", "1~", "1~2", " 1", "1 ", "1_000", "1,0", "1.0", "1e3", "0x10", "~ 1", "1\x00", "\x001", "٣", "１"}
	for c := range 256 {
		if c < '0' || c > '9' {
			texts = append(texts, string([]byte{byte(c)}), string([]byte{'1', byte(c)}), string([]byte{'1', byte(c), '1'}), strings.Repeat("8", 40)+string([]byte{byte(c)}))
		}
	}
	for _, s := range texts {
		if a, e := big.Parse(s); e != api.ErrForm || a.Neg || a.Mag != nil {
			t.Errorf("Parse(%q) = %v, %d", s, a, e)
		}
	}
}

// P1.6

func same(a, b api.Int) bool { return stands(a) && stands(b) && says(a) == says(b) }

func TestLawsOfTwo(t *testing.T) {
	for _, a := range samples() {
		if x, e := big.Parse(big.Text(a)); e != api.OK || !same(x, big.Norm(a)) {
			t.Errorf("Parse of Text of %s: %v, %d", says(a), x, e)
		}
		for _, b := range samples() {
			if !same(big.Add(a, b), big.Add(b, a)) || !same(big.Mul(a, b), big.Mul(b, a)) {
				t.Errorf("order: %s, %s", says(a), says(b))
			}
			if big.Cmp(a, b) != big.Sign(big.Sub(a, b)) || big.Cmp(a, b) != -big.Cmp(b, a) {
				t.Errorf("Cmp: %s, %s", says(a), says(b))
			}
			q, r, e := big.DivMod(a, b)
			if e != api.OK {
				continue
			}
			if !same(big.Add(big.Mul(q, b), r), big.Norm(a)) {
				t.Errorf("a is q b + r: %s, %s", says(a), says(b))
			}
			p, u, _ := big.DivMod(big.Add(a, b), b)
			if !same(p, big.Add(q, big.Of(1))) || !same(u, r) {
				t.Errorf("adding b to a: %s, %s", says(a), says(b))
			}
		}
	}
}

func TestLawsOfThree(t *testing.T) {
	r := rand.New(rand.NewSource(3))
	all := samples()
	for range 3000 {
		a, b, c := all[r.Intn(len(all))], all[r.Intn(len(all))], all[r.Intn(len(all))]
		if !same(big.Add(big.Add(a, b), c), big.Add(a, big.Add(b, c))) {
			t.Errorf("grouping of sums: %s, %s, %s", says(a), says(b), says(c))
		}
		if !same(big.Mul(big.Mul(a, b), c), big.Mul(a, big.Mul(b, c))) {
			t.Errorf("grouping of products: %s, %s, %s", says(a), says(b), says(c))
		}
		if !same(big.Mul(a, big.Add(b, c)), big.Add(big.Mul(a, b), big.Mul(a, c))) {
			t.Errorf("product of a sum: %s, %s, %s", says(a), says(b), says(c))
		}
	}
}

// DOC.md's example 2.
func TestFactorial(t *testing.T) {
	f := big.Of(1)
	for n := range int64(25) {
		f = big.Mul(f, big.Of(n+1))
	}
	if big.Text(f) != "15511210043330985984000000" {
		t.Errorf("25! = %s", big.Text(f))
	}
}
