package core_test

import (
	"maps"
	"math"
	"math/bits"
	"slices"
	"strings"

	"smithy/api"
	"smithy/big"
)

// The oracle does terms another way: it is a machine with a stack of what is to be done still, nothing of it is a call or a
// panic of Go; what is known is one table, anew with each name; its integers are int64, and a term that needs greater ones is
// lost.
type oracle struct {
	stack []todo
	left  int
	lost  bool
	over  bool
	out   api.Outcome
	input string
	files map[string]string
	exns  [8]*thing

	// what comes next: a term, a value, or a value that is raised
	term *api.Core
	at   known
	back *thing
	up   *thing
}

// todo is what is done with a value, or with one that is raised.
type todo struct{ next, caught func(v *thing) }

// thing is a value: i(nteger), c (small), r(eal), s (text), b(lock), f(unction), k (cell), v(ector), y (bytes).
type thing struct {
	kind byte
	n    int64
	r    float64
	s    string
	kids []*thing
	fn   *api.Core
	at   known
}

type known map[string]*thing

func (k known) plus(name string, v *thing) known {
	k = maps.Clone(k)
	if k == nil {
		k = known{}
	}
	k[name] = v
	return k
}

func num(n int64) *thing                   { return &thing{kind: 'i', n: n} }
func little(n int64) *thing                { return &thing{kind: 'c', n: n} }
func str(s string) *thing                  { return &thing{kind: 's', s: s} }
func float(f float64) *thing               { return &thing{kind: 'r', r: f} }
func cell(v *thing) *thing                 { return &thing{kind: 'k', kids: []*thing{v}} }
func blk(tag int64, kids ...*thing) *thing { return &thing{kind: 'b', n: tag, kids: kids} }

func yes(b bool) *thing {
	if b {
		return little(1)
	}
	return little(0)
}

// oracleRun is an outcome, and whether the oracle is lost.
func oracleRun(c *api.Core, w api.World, fuel int) (api.Outcome, bool) {
	o := &oracle{left: fuel, input: w.Stdin, files: map[string]string{}, term: c}
	for _, f := range w.Files {
		o.files[f.Name] = f.Data
	}
	for i, name := range strings.Fields("Match Bind Div Subscript Size Io Domain Chr") {
		o.exns[i] = cell(str(name))
	}
	o.stack = []todo{{next: func(*thing) { o.end(api.Exited, 0) }, caught: o.uncaught}}
	for !o.over && !o.lost {
		o.go1()
	}
	return o.out, o.lost
}

func (o *oracle) uncaught(v *thing) {
	name := "?"
	if v.kind == 'b' && len(v.kids) > 0 && v.kids[0].kind == 'k' && v.kids[0].kids[0].kind == 's' {
		name = v.kids[0].kids[0].s
	}
	o.say(api.EventErr, "uncaught exception "+name+"\n")
	o.end(api.Exited, 1)
}

// end ends it, the first time.
func (o *oracle) end(status, code int) {
	if !o.over {
		o.over = true
		o.out.Status, o.out.Code = status, code
	}
}

func (o *oracle) stuck() *thing {
	o.end(api.Stuck, 0)
	return nil
}

func (o *oracle) say(kind int, s string) {
	last := len(o.out.Trace) - 1
	switch {
	case s == "":
	case last >= 0 && o.out.Trace[last].Kind == kind:
		o.out.Trace[last].Text += s
	default:
		o.out.Trace = append(o.out.Trace, api.Event{Kind: kind, Text: s})
	}
}

func (o *oracle) spend(n int) bool {
	if n > o.left {
		o.end(api.Running, 0)
		return false
	}
	o.left -= n
	return true
}

// go1 does one thing.
func (o *oracle) go1() {
	if o.term != nil {
		c := o.term
		o.term = nil
		if o.spend(1) {
			o.look(c, o.at)
		}
		return
	}
	last := o.stack[len(o.stack)-1]
	v, up := o.back, o.up
	o.stack, o.back, o.up = o.stack[:len(o.stack)-1], nil, nil
	switch {
	case up != nil && last.caught != nil:
		last.caught(up)
	case up != nil:
		o.up = up
	case last.next != nil:
		last.next(v)
	default:
		o.back = v
	}
}

func (o *oracle) jump(c *api.Core, at known) { o.term, o.at = c, at }

func (o *oracle) eval(c *api.Core, at known, next func(v *thing)) {
	o.stack = append(o.stack, todo{next: next})
	o.jump(c, at)
}

// each works out terms, one behind the other.
func (o *oracle) each(l []api.Core, at known, all []*thing, next func(all []*thing)) {
	if len(all) == len(l) {
		next(all)
		return
	}
	o.eval(&l[len(all)], at, func(v *thing) { o.each(l, at, append(slices.Clone(all), v), next) })
}

func (o *oracle) look(c *api.Core, at known) {
	switch c.Kind {
	case api.CoreVar:
		o.back = at[c.Name]
	case api.CoreInt:
		n, is := big.Int64(c.Int)
		o.lost = o.lost || !is
		o.back = num(n)
	case api.CoreSmall:
		o.back = little(int64(c.N))
	case api.CoreReal:
		o.back = float(math.Float64frombits(c.Bits))
	case api.CoreText:
		o.back = str(c.Text)
	case api.CoreExn:
		o.back = o.exns[c.N]
	case api.CoreFn:
		o.back = &thing{kind: 'f', fn: c, at: at}
	case api.CoreRec:
		all := maps.Clone(at)
		if all == nil {
			all = known{}
		}
		for i, name := range c.Names {
			all[name] = &thing{kind: 'f', fn: &c.Kids[i], at: all}
		}
		o.jump(&c.Kids[len(c.Names)], all)
	case api.CoreLet:
		o.eval(&c.Kids[0], at, func(v *thing) { o.jump(&c.Kids[1], at.plus(c.Name, v)) })
	case api.CoreRaise:
		o.eval(&c.Kids[0], at, func(v *thing) { o.up = v })
	case api.CoreHandle:
		o.stack = append(o.stack, todo{caught: func(v *thing) { o.jump(&c.Kids[1], at.plus(c.Name, v)) }})
		o.jump(&c.Kids[0], at)
	case api.CoreIf, api.CoreSwitch, api.CoreCase:
		o.eval(&c.Kids[0], at, func(v *thing) { o.choose(c, v, at) })
	default:
		o.each(c.Kids, at, nil, func(all []*thing) { o.make(c, all) })
	}
}

// make makes something of what kids are.
func (o *oracle) make(c *api.Core, all []*thing) {
	switch {
	case c.Kind == api.CoreBlock:
		o.back = blk(int64(c.N), all...)
	case c.Kind == api.CoreField && all[0].kind == 'b' && len(all[0].kids) > c.N:
		o.back = all[0].kids[c.N]
	case c.Kind == api.CoreApp && all[0].kind == 'f':
		o.jump(&all[0].fn.Kids[0], all[0].at.plus(all[0].fn.Name, all[1]))
	case c.Kind == api.CorePrim:
		o.back = o.primitive(c.Name, all)
	default:
		o.stuck()
	}
}

func (o *oracle) choose(c *api.Core, v *thing, at known) {
	isTagged := v.kind == 'c' || v.kind == 'b'
	switch {
	case c.Kind == api.CoreCase:
		o.rows(c, v, at)
	case c.Kind == api.CoreIf && v.kind == 'c' && v.n == 0:
		o.jump(&c.Kids[2], at)
	case c.Kind == api.CoreIf && v.kind == 'c':
		o.jump(&c.Kids[1], at)
	case c.Kind == api.CoreSwitch && isTagged:
		to := len(c.Kids) - 1
		for i, tag := range c.Tags {
			if int64(tag) == v.n {
				to = i + 1
			}
		}
		o.jump(&c.Kids[to], at)
	default:
		o.stuck()
	}
}

// rows looks at the shapes of a case: what is to be looked at still is a list, the next one first.
func (o *oracle) rows(c *api.Core, v *thing, at known) {
	type pair struct {
		s *api.Shape
		v *thing
	}
row:
	for i := range c.Rows {
		inner := at
		for wait := []pair{{&c.Rows[i].S, v}}; len(wait) > 0; {
			s, v := wait[0].s, wait[0].v
			wait = wait[1:]
			if s.Name != "" {
				inner = inner.plus(s.Name, v)
			}
			fits, inside := o.head(s, v, at)
			switch {
			case o.over:
				return
			case !fits:
				continue row
			}
			var more []pair
			for j := range s.Kids {
				more = append(more, pair{&s.Kids[j], inside[j]})
			}
			wait = append(more, wait...)
		}
		o.jump(&c.Rows[i].E, inner)
		return
	}
	o.jump(&c.Kids[1], at)
}

// head tells whether a value fits a shape, but for its kids, and what these have to fit.
func (o *oracle) head(s *api.Shape, v *thing, at known) (bool, []*thing) {
	n, _ := big.Int64(s.Int)
	isTagged := v.kind == 'c' || v.kind == 'b'
	switch {
	case s.Kind == api.ShapeAny:
		return true, nil
	case s.Kind == api.ShapeInt && v.kind == 'i':
		return v.n == n, nil
	case s.Kind == api.ShapeText && v.kind == 's':
		return v.s == s.Text, nil
	case s.Kind == api.ShapeSmall && isTagged:
		return v.kind == 'c' && v.n == int64(s.N), nil
	case s.Kind == api.ShapeBlock && isTagged:
		if v.kind != 'b' || v.n != int64(s.N) {
			return false, nil
		}
		if len(v.kids) == len(s.Kids) {
			return true, v.kids
		}
	case s.Kind == api.ShapeExn && v.kind == 'b' && len(v.kids) == 2 && v.kids[0].kind == 'k' && at[s.Cell].kind == 'k':
		return v.kids[0] == at[s.Cell], v.kids[1:]
	}
	o.stuck()
	return false, nil
}

// kindsOf says of which kinds a primitive's arguments are; ? is any.
const kindsOf = "add:ii sub:ii mul:ii neg:i div:ii mod:ii lt:ii le:ii radd:rr rsub:rr rmul:rr rdiv:rr rneg:r rlt:rr rle:rr rfromint:i rfloor:r rbits:r itext:i cat:ss size:s ssub:si substring:sii " +
	"slt:ss sle:ss clt:cc cle:cc chr:i ord:c str:c eq:?? ref:? get:k set:k? same:kk vector:? vlen:v vsub:vi bnew:i blen:y bget:yi bset:yii print:s eprint:s inputline:? readfile:s writefile:ss exit:i "

// primitive is what a primitive answers; nil, if something else came of it.
func (o *oracle) primitive(name string, a []*thing) *thing {
	_, rest, _ := strings.Cut(" "+kindsOf, " "+name+":")
	for i := range a {
		if rest[i] != '?' && rest[i] != a[i].kind {
			return o.stuck()
		}
	}
	if v := o.numbers(name, a); v != nil || o.over || o.up != nil {
		return v
	}
	return o.others(name, a)
}

func (o *oracle) raise(n int) *thing {
	o.up = blk(0, o.exns[n], little(0))
	return nil
}

func (o *oracle) checked(n int64, fine bool) *thing {
	o.lost = o.lost || !fine
	return num(n)
}

func (o *oracle) numbers(name string, a []*thing) *thing {
	x := a[0]
	y := a[len(a)-1]
	switch name {
	case "add":
		return o.checked(x.n+y.n, (x.n+y.n >= x.n) == (y.n >= 0))
	case "sub":
		return o.checked(x.n-y.n, (x.n-y.n <= x.n) == (y.n >= 0))
	case "mul":
		high, low := bits.Mul64(uint64(max(x.n, -x.n)), uint64(max(y.n, -y.n)))
		return o.checked(x.n*y.n, high == 0 && low < 1<<63)
	case "neg":
		return o.checked(-x.n, x.n != math.MinInt64)
	case "div", "mod":
		if y.n == 0 {
			return o.raise(api.ExnDiv)
		}
		rest := ((x.n % y.n) + y.n) % y.n
		if name == "mod" {
			return num(rest)
		}
		return num((x.n - rest) / y.n)
	case "lt", "clt":
		return yes(x.n < y.n)
	case "le", "cle":
		return yes(x.n <= y.n)
	case "radd":
		return float(x.r + y.r)
	case "rsub":
		return float(x.r - y.r)
	case "rmul":
		return float(x.r * y.r)
	case "rdiv":
		return float(x.r / y.r)
	case "rneg":
		return float(-x.r)
	case "rlt":
		return yes(x.r < y.r)
	case "rle":
		return yes(x.r <= y.r)
	case "rfromint":
		return float(float64(x.n))
	case "rfloor":
		if math.IsNaN(x.r) || math.IsInf(x.r, 0) {
			return o.raise(api.ExnDomain)
		}
		return o.checked(int64(math.Floor(x.r)), math.Abs(x.r) < 1<<62)
	case "rbits":
		if math.IsNaN(x.r) {
			return num(0x7FF8 << 48)
		}
		return o.checked(int64(math.Float64bits(x.r)), !math.Signbit(x.r))
	case "slt":
		return yes(strings.Compare(x.s, y.s) < 0)
	case "sle":
		return yes(strings.Compare(x.s, y.s) <= 0)
	case "size", "blen":
		return num(int64(len(x.s)))
	case "vlen":
		return num(int64(len(x.kids)))
	case "ord":
		return num(x.n)
	case "chr":
		if x.n < 0 || x.n > 255 {
			return o.raise(api.ExnChr)
		}
		return little(x.n)
	case "str":
		return str(string([]byte{byte(x.n)}))
	case "itext":
		return o.made(digits(x.n))
	}
	return nil
}

func digits(n int64) string {
	s, rest := "", n
	for {
		d := rest % 10
		s = string(rune('0'+max(d, -d))) + s
		if rest /= 10; rest == 0 {
			break
		}
	}
	if n < 0 {
		return "~" + s
	}
	return s
}

func (o *oracle) made(s string) *thing {
	if len(s) > api.MaxString {
		return o.raise(api.ExnSize)
	}
	o.spend(len(s) / 64)
	return str(s)
}

// place tells whether an integer is a place of so many.
func (o *oracle) place(i *thing, many int) bool {
	if i.n < 0 || i.n >= int64(many) {
		o.raise(api.ExnSubscript)
		return false
	}
	return true
}

func (o *oracle) others(name string, a []*thing) *thing {
	x := a[0]
	switch name {
	case "cat":
		return o.made(x.s + a[1].s)
	case "substring":
		all, i, n := int64(len(x.s)), a[1].n, a[2].n
		if i < 0 || n < 0 || i > all || n > all-i {
			return o.raise(api.ExnSubscript)
		}
		return o.made(x.s[i : i+n])
	case "ssub":
		if o.place(a[1], len(x.s)) {
			return little(int64(x.s[a[1].n]))
		}
	case "vsub":
		if o.place(a[1], len(x.kids)) {
			return x.kids[a[1].n]
		}
	case "bget":
		if o.place(a[1], len(x.s)) {
			return num(int64(x.s[a[1].n]))
		}
	case "bset":
		if o.place(a[1], len(x.s)) {
			x.s = x.s[:a[1].n] + string([]byte{byte(a[2].n)}) + x.s[a[1].n+1:]
			return blk(0)
		}
	case "bnew":
		if x.n < 0 || x.n > api.MaxString {
			return o.raise(api.ExnSize)
		}
		o.spend(int(x.n) / 64)
		return &thing{kind: 'y', s: strings.Repeat("\x00", int(x.n))}
	case "eq":
		return o.equal(x, a[1])
	case "ref":
		return cell(x)
	case "get":
		return x.kids[0]
	case "set":
		x.kids[0] = a[1]
		return blk(0)
	case "same":
		return yes(x == a[1])
	case "vector":
		return o.vector(x)
	}
	if o.up != nil {
		return nil
	}
	return o.outside(name, a)
}

func (o *oracle) vector(v *thing) *thing {
	out := &thing{kind: 'v'}
	for ; v.kind == 'b'; v = v.kids[0].kids[1] {
		if v.n != 1 || len(v.kids) != 1 || v.kids[0].kind != 'b' || v.kids[0].n != 0 || len(v.kids[0].kids) != 2 {
			return o.stuck()
		}
		out.kids = append(out.kids, v.kids[0].kids[0])
	}
	if v.kind != 'c' || v.n != 0 {
		return o.stuck()
	}
	o.spend(len(out.kids) / 8)
	return out
}

func (o *oracle) outside(name string, a []*thing) *thing {
	x := a[0]
	switch name {
	case "print", "eprint":
		if o.spend(len(x.s) / 64) {
			o.say(map[string]int{"print": api.EventOut, "eprint": api.EventErr}[name], x.s)
		}
		return blk(0)
	case "inputline":
		end := strings.IndexByte(o.input, '\n') + 1
		if end == 0 {
			end = len(o.input)
		}
		line := o.input[:end]
		o.input = o.input[end:]
		return o.made(line)
	case "readfile":
		if s, is := o.files[x.s]; is && len(s) <= api.MaxString {
			return o.made(s)
		}
		return o.raise(api.ExnIo)
	case "writefile":
		if x.s == "" || len(x.s) > 255 || strings.Contains(x.s, "\x00") {
			return o.raise(api.ExnIo)
		}
		if o.spend(len(a[1].s) / 64) {
			o.files[x.s] = a[1].s
			o.out.Trace = append(o.out.Trace, api.Event{Kind: api.EventWrite, Name: x.s, Text: a[1].s})
		}
		return blk(0)
	}
	o.end(api.Exited, int(((x.n%256)+256)%256))
	return nil
}

// equal goes through two values with a list of pairs that wait, the next one last.
func (o *oracle) equal(a, b *thing) *thing {
	for wait := [][2]*thing{{a, b}}; len(wait) > 0; {
		a, b := wait[len(wait)-1][0], wait[len(wait)-1][1]
		wait = wait[:len(wait)-1]
		both := string([]byte{a.kind, b.kind})
		switch {
		case both == "cb" || both == "bc":
			return yes(false)
		case a.kind != b.kind || both == "rr" || both == "ff":
			return o.stuck()
		case both == "kk" || both == "yy":
			if a != b {
				return yes(false)
			}
		case both == "bb" || both == "vv":
			if !o.spend(1) || a.n != b.n || len(a.kids) != len(b.kids) {
				return yes(false)
			}
			for i := len(a.kids) - 1; i >= 0; i-- {
				wait = append(wait, [2]*thing{a.kids[i], b.kids[i]})
			}
		case a.n != b.n || a.s != b.s:
			return yes(false)
		}
	}
	return yes(true)
}
