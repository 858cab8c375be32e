package flow_test

import (
	"math"
	"math/bits"
	"strings"

	"smithy/api"
	"smithy/big"
)

// The oracle does programs another way: it is a machine with a stack of calls and tries that are open, nothing of it is a call or
// a panic of Go; its integers are int64, and a program that needs greater ones is lost.
type oracle struct {
	funs  []api.Func
	stack []open
	left  int
	lost  bool
	over  bool
	out   api.Outcome
	input string
	files map[string]string
	exns  [8]*thing

	at   *api.Flow // what comes next, and its locals
	mine []*thing
	up   *thing // what is raised, if something is
}

// open is a let whose call has not returned yet, or a try: the local that is set then, and where it goes on; catch is the try, as
// long as its first kid is gone through.
type open struct {
	mine  []*thing
	put   int
	next  *api.Flow
	catch *api.Flow
}

// thing is a value: i(nteger), c (small), r(eal), s (text), b(lock), f(unction), k (cell), v(ector), y (bytes).
type thing struct {
	kind byte
	n    int64
	r    float64
	s    string
	kids []*thing
}

func num(n int64) *thing                   { return &thing{kind: 'i', n: n} }
func little(n int64) *thing                { return &thing{kind: 'c', n: n} }
func str(s string) *thing                  { return &thing{kind: 's', s: s} }
func float(f float64) *thing               { return &thing{kind: 'r', r: f} }
func cell(v *thing) *thing                 { return &thing{kind: 'k', kids: []*thing{v}} }
func blk(tag int64, kids ...*thing) *thing { return &thing{kind: 'b', n: tag, kids: kids} }

func yes(b bool) *thing {
	if b {
		return little(1)
	}
	return little(0)
}

// oracleRun is an outcome, and whether the oracle is lost.
func oracleRun(p api.Program, w api.World, fuel int) (api.Outcome, bool) {
	o := &oracle{funs: p.Funs, left: fuel, input: w.Stdin, files: map[string]string{}}
	for _, f := range w.Files {
		o.files[f.Name] = f.Data
	}
	for i, name := range strings.Fields("Match Bind Div Subscript Size Io Domain Chr") {
		o.exns[i] = cell(str(name))
	}
	o.enter(0, nil)
	for !o.over && !o.lost {
		if o.spend(1) {
			o.look()
		}
	}
	return o.out, o.lost
}

// enter begins a function.
func (o *oracle) enter(f int, args []*thing) {
	o.mine = make([]*thing, o.funs[f].Locals)
	copy(o.mine, args)
	o.at = &o.funs[f].Body
}

// returned goes on with what was waiting.
func (o *oracle) returned(v *thing) {
	if len(o.stack) == 0 {
		o.end(api.Exited, 0)
		return
	}
	top := o.stack[len(o.stack)-1]
	o.stack = o.stack[:len(o.stack)-1]
	top.mine[top.put] = v
	o.at, o.mine = top.next, top.mine
}

// raised leaves all that is open up to a try.
func (o *oracle) raised(v *thing) {
	for len(o.stack) > 0 {
		top := o.stack[len(o.stack)-1]
		o.stack = o.stack[:len(o.stack)-1]
		if top.catch != nil {
			top.mine[top.catch.V] = v
			o.at, o.mine = &top.catch.Kids[1], top.mine
			top.catch = nil
			o.stack = append(o.stack, top)
			return
		}
	}
	name := "?"
	if v.kind == 'b' && len(v.kids) > 0 && v.kids[0].kind == 'k' && v.kids[0].kids[0].kind == 's' {
		name = v.kids[0].kids[0].s
	}
	o.say(api.EventErr, "uncaught exception "+name+"\n")
	o.end(api.Exited, 1)
}

// look does a node.
func (o *oracle) look() {
	f := o.at
	switch f.Kind {
	case api.FlowRet:
		o.returned(o.atom(f.A))
	case api.FlowRaise:
		o.raised(o.atom(f.A))
	case api.FlowLet:
		o.let(f)
	case api.FlowTail:
		o.enter(f.F, o.atoms(f.Args))
	case api.FlowGo:
		if c := o.atom(f.A); c.kind == 'f' {
			o.enter(int(c.n), []*thing{c, o.atom(f.Args[0])})
			return
		}
		o.stuck()
	case api.FlowTry:
		o.stack = append(o.stack, open{o.mine, f.W, &f.Kids[2], f})
		o.at = &f.Kids[0]
	default:
		o.choose(f, o.atom(f.A))
	}
}

func (o *oracle) choose(f *api.Flow, v *thing) {
	switch {
	case f.Kind == api.FlowIf && v.kind == 'c':
		if v.n != 0 {
			o.at = &f.Kids[0]
		} else {
			o.at = &f.Kids[1]
		}
	case f.Kind == api.FlowSwitch && (v.kind == 'c' || v.kind == 'b'):
		o.at = &f.Kids[len(f.Kids)-1]
		for i, tag := range f.Tags {
			if int64(tag) == v.n {
				o.at = &f.Kids[i]
			}
		}
	default:
		o.stuck()
	}
}

// let does an operation: what it answers is set at once, or when a call has returned.
func (o *oracle) let(f *api.Flow) {
	a := o.atoms(f.Op.Args)
	wait := open{o.mine, f.V, &f.Kids[0], nil}
	var v *thing
	switch n := f.Op.N; f.Op.Kind {
	case api.OpCall:
		o.stack = append(o.stack, wait)
		o.enter(f.Op.F, a)
		return
	case api.OpApply:
		if a[0].kind == 'f' {
			o.stack = append(o.stack, wait)
			o.enter(int(a[0].n), a)
			return
		}
	case api.OpAtom:
		v = a[0]
	case api.OpPrim:
		v = o.primitive(f.Op.Name, a)
	case api.OpBlock:
		v = blk(int64(n), a...)
	case api.OpClosure:
		v = &thing{kind: 'f', n: int64(f.Op.F), kids: a}
	case api.OpField:
		if a[0].kind == 'b' && n < len(a[0].kids) {
			v = a[0].kids[n]
		}
	case api.OpCapture:
		if a[0].kind == 'f' && n < len(a[0].kids) {
			v = a[0].kids[n]
		}
	case api.OpPatch:
		if a[0].kind == 'f' && n < len(a[0].kids) {
			a[0].kids[n] = a[1]
			v = blk(0)
		}
	}
	switch {
	case o.over:
	case o.up != nil:
		up := o.up
		o.up = nil
		o.raised(up)
	case v == nil:
		o.stuck()
	default:
		o.mine[f.V], o.at = v, &f.Kids[0]
	}
}

func (o *oracle) atoms(l []api.Atom) []*thing {
	var out []*thing
	for _, a := range l {
		out = append(out, o.atom(a))
	}
	return out
}

func (o *oracle) atom(a api.Atom) *thing {
	switch a.Kind {
	case api.AtomInt:
		n, is := big.Int64(a.Int)
		o.lost = o.lost || !is
		return num(n)
	case api.AtomSmall:
		return little(int64(a.V))
	case api.AtomText:
		return str(a.Text)
	case api.AtomReal:
		return float(math.Float64frombits(a.Bits))
	case api.AtomExn:
		return o.exns[a.V]
	}
	return o.mine[a.V]
}

// end ends it, the first time.
func (o *oracle) end(status, code int) {
	if !o.over {
		o.over = true
		o.out.Status, o.out.Code = status, code
	}
}

func (o *oracle) stuck() *thing {
	o.end(api.Stuck, 0)
	return nil
}

func (o *oracle) say(kind int, s string) {
	last := len(o.out.Trace) - 1
	switch {
	case s == "":
	case last >= 0 && o.out.Trace[last].Kind == kind:
		o.out.Trace[last].Text += s
	default:
		o.out.Trace = append(o.out.Trace, api.Event{Kind: kind, Text: s})
	}
}

func (o *oracle) spend(n int) bool {
	if n > o.left {
		o.end(api.Running, 0)
		return false
	}
	o.left -= n
	return true
}

// primitive is what a primitive answers; nil, if something else came of it.
func (o *oracle) primitive(name string, a []*thing) *thing {
	_, rest, _ := strings.Cut(" "+kindsOf, " "+name+":")
	kind := map[byte]byte{'a': 'i', 'x': 'r', 's': 's', 'c': 'c', 'r': 'k', 'v': 'v', 'b': 'y'}
	for i := range a {
		if want := kind[rest[i]]; want != 0 && want != a[i].kind {
			return o.stuck()
		}
	}
	if v := o.numbers(name, a); v != nil || o.over || o.up != nil {
		return v
	}
	return o.others(name, a)
}

func (o *oracle) raise(n int) *thing {
	o.up = blk(0, o.exns[n], little(0))
	return nil
}

func (o *oracle) checked(n int64, fine bool) *thing {
	o.lost = o.lost || !fine
	return num(n)
}

func (o *oracle) numbers(name string, a []*thing) *thing {
	x := a[0]
	y := a[len(a)-1]
	switch name {
	case "add":
		return o.checked(x.n+y.n, (x.n+y.n >= x.n) == (y.n >= 0))
	case "sub":
		return o.checked(x.n-y.n, (x.n-y.n <= x.n) == (y.n >= 0))
	case "mul":
		high, low := bits.Mul64(uint64(max(x.n, -x.n)), uint64(max(y.n, -y.n)))
		return o.checked(x.n*y.n, high == 0 && low < 1<<63)
	case "neg":
		return o.checked(-x.n, x.n != math.MinInt64)
	case "div", "mod":
		if y.n == 0 {
			return o.raise(api.ExnDiv)
		}
		rest := ((x.n % y.n) + y.n) % y.n
		if name == "mod" {
			return num(rest)
		}
		return num((x.n - rest) / y.n)
	case "lt", "clt":
		return yes(x.n < y.n)
	case "le", "cle":
		return yes(x.n <= y.n)
	case "radd":
		return float(x.r + y.r)
	case "rsub":
		return float(x.r - y.r)
	case "rmul":
		return float(x.r * y.r)
	case "rdiv":
		return float(x.r / y.r)
	case "rneg":
		return float(-x.r)
	case "rlt":
		return yes(x.r < y.r)
	case "rle":
		return yes(x.r <= y.r)
	case "rfromint":
		return float(float64(x.n))
	case "rfloor":
		if math.IsNaN(x.r) || math.IsInf(x.r, 0) {
			return o.raise(api.ExnDomain)
		}
		return o.checked(int64(math.Floor(x.r)), math.Abs(x.r) < 1<<62)
	case "rbits":
		if math.IsNaN(x.r) {
			return num(0x7FF8 << 48)
		}
		return o.checked(int64(math.Float64bits(x.r)), !math.Signbit(x.r))
	case "slt":
		return yes(strings.Compare(x.s, y.s) < 0)
	case "sle":
		return yes(strings.Compare(x.s, y.s) <= 0)
	case "size", "blen":
		return num(int64(len(x.s)))
	case "vlen":
		return num(int64(len(x.kids)))
	case "ord":
		return num(x.n)
	case "chr":
		if x.n < 0 || x.n > 255 {
			return o.raise(api.ExnChr)
		}
		return little(x.n)
	case "str":
		return str(string([]byte{byte(x.n)}))
	case "itext":
		return o.made(digits(x.n))
	}
	return nil
}

func digits(n int64) string {
	s, rest := "", n
	for {
		d := rest % 10
		s = string(rune('0'+max(d, -d))) + s
		if rest /= 10; rest == 0 {
			break
		}
	}
	if n < 0 {
		return "~" + s
	}
	return s
}

func (o *oracle) made(s string) *thing {
	if len(s) > api.MaxString {
		return o.raise(api.ExnSize)
	}
	o.spend(len(s) / 64)
	return str(s)
}

// place tells whether an integer is a place of so many.
func (o *oracle) place(i *thing, many int) bool {
	if i.n < 0 || i.n >= int64(many) {
		o.raise(api.ExnSubscript)
		return false
	}
	return true
}

func (o *oracle) others(name string, a []*thing) *thing {
	x := a[0]
	switch name {
	case "cat":
		return o.made(x.s + a[1].s)
	case "substring":
		all, i, n := int64(len(x.s)), a[1].n, a[2].n
		if i < 0 || n < 0 || i > all || n > all-i {
			return o.raise(api.ExnSubscript)
		}
		return o.made(x.s[i : i+n])
	case "ssub":
		if o.place(a[1], len(x.s)) {
			return little(int64(x.s[a[1].n]))
		}
	case "vsub":
		if o.place(a[1], len(x.kids)) {
			return x.kids[a[1].n]
		}
	case "bget":
		if o.place(a[1], len(x.s)) {
			return num(int64(x.s[a[1].n]))
		}
	case "bset":
		if o.place(a[1], len(x.s)) {
			x.s = x.s[:a[1].n] + string([]byte{byte(a[2].n)}) + x.s[a[1].n+1:]
			return blk(0)
		}
	case "bnew":
		if x.n < 0 || x.n > api.MaxString {
			return o.raise(api.ExnSize)
		}
		o.spend(int(x.n) / 64)
		return &thing{kind: 'y', s: strings.Repeat("\x00", int(x.n))}
	case "eq":
		return o.equal(x, a[1])
	case "ref":
		return cell(x)
	case "get":
		return x.kids[0]
	case "set":
		x.kids[0] = a[1]
		return blk(0)
	case "same":
		return yes(x == a[1])
	case "vector":
		return o.vector(x)
	}
	if o.up != nil {
		return nil
	}
	return o.outside(name, a)
}

func (o *oracle) vector(v *thing) *thing {
	out := &thing{kind: 'v'}
	for ; v.kind == 'b'; v = v.kids[0].kids[1] {
		if v.n != 1 || len(v.kids) != 1 || v.kids[0].kind != 'b' || v.kids[0].n != 0 || len(v.kids[0].kids) != 2 {
			return o.stuck()
		}
		out.kids = append(out.kids, v.kids[0].kids[0])
	}
	if v.kind != 'c' || v.n != 0 {
		return o.stuck()
	}
	o.spend(len(out.kids) / 8)
	return out
}

func (o *oracle) outside(name string, a []*thing) *thing {
	x := a[0]
	switch name {
	case "print", "eprint":
		if o.spend(len(x.s) / 64) {
			o.say(map[string]int{"print": api.EventOut, "eprint": api.EventErr}[name], x.s)
		}
		return blk(0)
	case "inputline":
		end := strings.IndexByte(o.input, '\n') + 1
		if end == 0 {
			end = len(o.input)
		}
		line := o.input[:end]
		o.input = o.input[end:]
		return o.made(line)
	case "readfile":
		if s, is := o.files[x.s]; is && len(s) <= api.MaxString {
			return o.made(s)
		}
		return o.raise(api.ExnIo)
	case "writefile":
		if x.s == "" || len(x.s) > 255 || strings.Contains(x.s, "\x00") {
			return o.raise(api.ExnIo)
		}
		if o.spend(len(a[1].s) / 64) {
			o.files[x.s] = a[1].s
			o.out.Trace = append(o.out.Trace, api.Event{Kind: api.EventWrite, Name: x.s, Text: a[1].s})
		}
		return blk(0)
	}
	o.end(api.Exited, int(((x.n%256)+256)%256))
	return nil
}

// equal goes through two values with a list of pairs that wait, the next one last.
func (o *oracle) equal(a, b *thing) *thing {
	for wait := [][2]*thing{{a, b}}; len(wait) > 0; {
		a, b := wait[len(wait)-1][0], wait[len(wait)-1][1]
		wait = wait[:len(wait)-1]
		both := string([]byte{a.kind, b.kind})
		switch {
		case both == "cb" || both == "bc":
			return yes(false)
		case a.kind != b.kind || both == "rr" || both == "ff":
			return o.stuck()
		case both == "kk" || both == "yy":
			if a != b {
				return yes(false)
			}
		case both == "bb" || both == "vv":
			if !o.spend(1) || a.n != b.n || len(a.kids) != len(b.kids) {
				return yes(false)
			}
			for i := len(a.kids) - 1; i >= 0; i-- {
				wait = append(wait, [2]*thing{a.kids[i], b.kids[i]})
			}
		case a.n != b.n || a.s != b.s:
			return yes(false)
		}
	}
	return yes(true)
}
