package word

import (
	"math"
	"math/big"

	"smithy/api"
	"smithy/world"
)

// oracle is a process as the chapter's words have it, done slowly: registers, slots and memory are maps, words are big numbers.
type oracle struct {
	p       api.WordProgram
	heap    uint64
	strict  bool
	world   *world.World
	mem     map[uint64]byte
	calls   []*oracleCall
	entered bool
	status  int
	code    int
	answer  uint64
	steps   int
	unset   bool // it is stuck for what isn't set
}

type oracleCall struct {
	f, at int
	regs  map[int]uint64
	slots map[int]uint64
}

func newOracle(p api.WordProgram, heap uint64, strict bool, w *world.World) *oracle {
	o := &oracle{p: p, heap: heap, strict: strict, world: w, mem: map[uint64]byte{}}
	for i, b := range p.Data {
		o.mem[api.DataBase+uint64(i)] = b
	}
	o.calls = []*oracleCall{newCall(0, nil)}
	return o
}

func newCall(f int, args []uint64) *oracleCall {
	c := &oracleCall{f: f, regs: map[int]uint64{}, slots: map[int]uint64{}}
	for i, x := range args {
		c.regs[i] = x
	}
	return c
}

func (o *oracle) enter(name string, args []uint64) {
	for i, f := range o.p.Funs {
		if f.Name == name {
			o.calls = []*oracleCall{newCall(i, args)}
			break
		}
	}
	o.entered, o.status, o.code, o.answer = true, api.Running, 0, 0
}

func (o *oracle) run(fuel int) int {
	for fuel > 0 && o.status == api.Running {
		c := o.calls[len(o.calls)-1]
		w := o.p.Funs[c.f].Code[c.at]
		if w.Kind == api.WordLabel {
			c.at++
			continue
		}
		if !o.do(c, w) {
			o.status = api.Stuck
			break
		}
		o.steps++
		fuel--
	}
	return o.status
}

func (o *oracle) there(at *big.Int) bool {
	within := func(base, size uint64) bool {
		b := new(big.Int).SetUint64(base)
		e := new(big.Int).Add(b, new(big.Int).SetUint64(size))
		return at.Cmp(b) >= 0 && at.Cmp(e) < 0
	}
	return within(api.DataBase, uint64(len(o.p.Data)+o.p.Zero)) || within(api.HeapBase, o.heap)
}

// all tells whether n bytes are there: their addresses don't go round.
func (o *oracle) all(at, n uint64) bool {
	a := new(big.Int).SetUint64(at)
	for i := range n {
		if !o.there(new(big.Int).Add(a, new(big.Int).SetUint64(i))) {
			return false
		}
	}
	return true
}

func (o *oracle) load(at uint64, size int) (uint64, bool) {
	if !o.all(at, uint64(size)) {
		return 0, false
	}
	x := new(big.Int)
	for i := size - 1; i >= 0; i-- {
		x.Lsh(x, 8)
		x.Add(x, big.NewInt(int64(o.mem[at+uint64(i)])))
	}
	return x.Uint64(), true
}

func (o *oracle) store(at uint64, size int, x uint64) bool {
	if !o.all(at, uint64(size)) {
		return false
	}
	for i := range size {
		o.mem[at+uint64(i)] = byte(x)
		x /= 256
	}
	return true
}

// reg is a register; what isn't set makes it stuck.
func (o *oracle) reg(c *oracleCall, r int, fine *bool) uint64 {
	x, is := c.regs[r]
	if !is {
		*fine, o.unset = false, true
	}
	return x
}

// do does an instruction that is no label; false, if it sticks.
func (o *oracle) do(c *oracleCall, w api.Word) bool {
	fine := true
	_, fields := form(w.Kind)
	var a, b uint64
	var args []uint64
	for _, f := range fields {
		switch f {
		case 'A':
			a = o.reg(c, w.A, &fine)
		case 'B':
			b = o.reg(c, w.B, &fine)
		case 'l':
			for _, r := range w.Args {
				args = append(args, o.reg(c, r, &fine))
			}
		}
	}
	if !fine {
		return false
	}
	switch w.Kind {
	case api.WordJump:
		c.at = o.label(c, w.L)
		return true
	case api.WordBranch:
		if condition(w.Cond, a, b) {
			c.at = o.label(c, w.L)
		} else {
			c.at++
		}
		return true
	case api.WordCall, api.WordTail:
		return o.call(c, w, w.F, args)
	case api.WordApply, api.WordGo:
		f, is := o.function(a)
		return is && o.call(c, w, f, args)
	case api.WordRet:
		o.back(a)
		return true
	}
	return o.plain(c, w, a, b, args)
}

// plain does an instruction behind which the next one is done.
func (o *oracle) plain(c *oracleCall, w api.Word, a, b uint64, args []uint64) bool {
	var v uint64
	fine, sets := true, true
	switch w.Kind {
	case api.WordConst:
		v = uint64(w.Imm)
	case api.WordMove:
		v = a
	case api.WordSet:
		if condition(w.Cond, a, b) {
			v = 1
		}
	case api.WordReal:
		v = real2(w.Real, a, b)
	case api.WordLoad:
		v, fine = o.load(a+uint64(w.Imm), w.Size)
	case api.WordStore:
		sets, fine = false, o.store(a+uint64(w.Imm), w.Size, b)
	case api.WordData:
		v = api.DataBase + uint64(w.Imm)
	case api.WordFunc:
		v = api.CodeBase + 16*uint64(w.F)
	case api.WordHeap:
		v = o.heap
	case api.WordSys:
		v, fine = o.system(w.Imm, append(args, 0, 0, 0))
	case api.WordGet:
		v, fine = c.slots[int(w.Imm)]
		o.unset = o.unset || !fine
	case api.WordPut:
		sets = false
		c.slots[int(w.Imm)] = a
	default:
		v, fine = words2(w.Kind, a, b)
	}
	if fine && sets {
		c.regs[w.D] = v
	}
	if fine {
		c.at++
	}
	return fine
}

func (o *oracle) label(c *oracleCall, l int) int {
	for i, w := range o.p.Funs[c.f].Code {
		if w.Kind == api.WordLabel && w.L == l {
			return i + 1
		}
	}
	panic("no label")
}

func (o *oracle) function(a uint64) (int, bool) {
	for i := range o.p.Funs {
		if a == api.CodeBase+16*uint64(i) {
			return i, true
		}
	}
	return 0, false
}

func (o *oracle) call(c *oracleCall, w api.Word, f int, args []uint64) bool {
	if o.p.Funs[f].Params != len(args) {
		return false
	}
	if w.Kind == api.WordTail || w.Kind == api.WordGo {
		o.calls[len(o.calls)-1] = newCall(f, args)
		return true
	}
	if len(o.calls) == api.MaxCalls {
		return false
	}
	if o.strict {
		c.regs = map[int]uint64{}
	}
	o.calls = append(o.calls, newCall(f, args))
	return true
}

func (o *oracle) back(x uint64) {
	o.calls = o.calls[:len(o.calls)-1]
	if len(o.calls) > 0 {
		c := o.calls[len(o.calls)-1]
		c.regs[o.p.Funs[c.f].Code[c.at].D] = x
		c.at++
	} else if o.entered {
		o.status, o.answer = api.WordDone, x
	} else {
		o.status, o.code = api.Exited, int(x&255)
	}
}

func (o *oracle) system(number int64, a []uint64) (uint64, bool) {
	switch number {
	case 0, 1:
		if a[2] > 1<<31 {
			return wordOf(-22), true
		}
		if !o.all(a[1], a[2]) {
			return wordOf(-14), true
		}
		if number == 0 {
			s, n := o.world.SysRead(int64(a[0]), a[2])
			for i := range len(s) {
				o.mem[a[1]+uint64(i)] = s[i]
			}
			return wordOf(n), true
		}
		var s []byte
		for i := range a[2] {
			s = append(s, o.mem[a[1]+i])
		}
		return wordOf(o.world.SysWrite(int64(a[0]), string(s))), true
	case 2:
		var s []byte
		for i := range uint64(256) {
			if !o.all(a[0]+i, 1) {
				return wordOf(-14), true
			}
			if o.mem[a[0]+i] == 0 {
				return wordOf(o.world.SysOpen(string(s), int64(a[1]))), true
			}
			s = append(s, o.mem[a[0]+i])
		}
		return wordOf(-36), true
	case 3:
		return wordOf(o.world.SysClose(int64(a[0]))), true
	case 60:
		o.status, o.code = api.Exited, int(a[0]&255)
		return 0, true
	}
	return 0, false
}

func wordOf(n int64) uint64 { return uint64(n) }

// signed is a word as a signed number.
func signed(a uint64) *big.Int {
	x := new(big.Int).SetUint64(a)
	if x.Bit(63) == 1 {
		x.Sub(x, new(big.Int).Lsh(big.NewInt(1), 64))
	}
	return x
}

// round is a number as a word, gone round.
func round(x *big.Int) uint64 {
	return new(big.Int).Mod(x, new(big.Int).Lsh(big.NewInt(1), 64)).Uint64()
}

func condition(cond int, a, b uint64) bool {
	x, y := new(big.Int).SetUint64(a), new(big.Int).SetUint64(b)
	switch cond {
	case api.CondEq:
		return x.Cmp(y) == 0
	case api.CondNe:
		return x.Cmp(y) != 0
	case api.CondLt:
		return signed(a).Cmp(signed(b)) < 0
	case api.CondLe:
		return signed(a).Cmp(signed(b)) <= 0
	case api.CondLtu:
		return x.Cmp(y) < 0
	case api.CondLeu:
		return x.Cmp(y) <= 0
	}
	panic("no condition")
}

func words2(kind int, a, b uint64) (uint64, bool) {
	x, y, z := new(big.Int).SetUint64(a), new(big.Int).SetUint64(b), new(big.Int)
	by := uint(b & 63)
	switch kind {
	case api.WordAdd:
		z.Add(x, y)
	case api.WordSub:
		z.Sub(x, y)
	case api.WordMul:
		z.Mul(x, y)
	case api.WordHigh:
		z.Rsh(z.Mul(x, y), 64)
	case api.WordDiv, api.WordRem:
		if b == 0 {
			return 0, false
		}
		q, r := new(big.Int).DivMod(x, y, new(big.Int))
		z = q
		if kind == api.WordRem {
			z = r
		}
	case api.WordAnd:
		z.And(x, y)
	case api.WordOr:
		z.Or(x, y)
	case api.WordXor:
		z.Xor(x, y)
	case api.WordShl:
		z.Lsh(x, by)
	case api.WordShr:
		z.Rsh(x, by)
	case api.WordSar:
		z.Rsh(signed(a), by)
	default:
		panic("no kind of words")
	}
	return round(z), true
}

// real2 reckons by big.Float where there are no NaNs, infinities and noughts: with 2000 bits sums and products are exact, and quotients
// are rounded once too often only where they can't be told from a half.
func real2(real int, a, b uint64) uint64 {
	x, y := math.Float64frombits(a), math.Float64frombits(b)
	truth := map[bool]uint64{true: 1}
	nan := x != x || y != y
	switch real {
	case api.RealLt:
		return truth[!nan && x < y]
	case api.RealLe:
		return truth[!nan && x <= y]
	case api.RealEq:
		return truth[!nan && x == y]
	case api.RealInt:
		r, _ := new(big.Float).SetInt(signed(a)).Float64()
		return math.Float64bits(r)
	}
	var z float64
	odd := func(r float64) bool { return r != r || math.IsInf(r, 0) || r == 0 }
	f := new(big.Float).SetPrec(4000)
	if odd(x) || odd(y) {
		switch real {
		case api.RealAdd:
			z = x + y
		case api.RealSub:
			z = x - y
		case api.RealMul:
			z = x * y
		case api.RealDiv:
			z = x / y
		}
	} else {
		p, q := big.NewFloat(x), big.NewFloat(y)
		switch real {
		case api.RealAdd:
			f.Add(p, q)
		case api.RealSub:
			f.Sub(p, q)
		case api.RealMul:
			f.Mul(p, q)
		case api.RealDiv:
			f.Quo(p, q)
		}
		z, _ = f.Float64()
	}
	if z != z {
		return 0x7ff8000000000000
	}
	return math.Float64bits(z)
}
