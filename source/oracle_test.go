package source_test

import (
	"maps"
	"math"
	"slices"
	"strconv"
	"strings"

	"smithy/api"
	"smithy/big"
)

// The oracle does programs another way: it is a machine with a stack of what is to be done still, nothing of it is a call
// or a panic of Go; what is known is one table, anew with each name, in which structures' names stand with their dots; its
// integers are int64, and a program that needs greater ones is lost.
type oracle struct {
	stack []todo
	left  int
	lost  bool
	over  bool
	out   api.Outcome
	input string
	files map[string]string
	exns  map[string]*thing
	names int

	// what comes next: an expression, a value, or a value that is raised
	exp  *api.Exp
	at   known
	back *thing
	up   *thing
}

// todo is what is done with a value, or a handler.
type todo struct {
	next  func(v *thing)
	rules []api.Rule
	at    known
}

// thing is a value.
type thing struct {
	kind byte // i, c(small), r, s, b(lock), f, k (cell), v, y (bytes)
	n    int64
	r    float64
	s    string
	kids []*thing
	call func(o *oracle, v *thing)
}

// entry is what a name stands for.
type entry struct {
	v    *thing
	tag  int64
	cell *thing
	id   int // of the declaration: unlike, each time
}

type known map[string]entry

func num(n int64) *thing                   { return &thing{kind: 'i', n: n} }
func little(n int64) *thing                { return &thing{kind: 'c', n: n} }
func str(s string) *thing                  { return &thing{kind: 's', s: s} }
func float(f float64) *thing               { return &thing{kind: 'r', r: f} }
func blk(tag int64, kids ...*thing) *thing { return &thing{kind: 'b', n: tag, kids: kids} }

func yes(b bool) *thing {
	if b {
		return little(1)
	}
	return little(0)
}

// put declares a name in k itself.
func (o *oracle) put(k known, name string, e entry) {
	o.names++
	e.id = o.names
	k[name] = e
}

func (o *oracle) plus(k known, name string, e entry) known {
	k = maps.Clone(k)
	o.put(k, name, e)
	return k
}

func oracleRun(l []api.Dec, w api.World, fuel int) (api.Outcome, bool) {
	o := &oracle{left: fuel, input: w.Stdin, files: map[string]string{}, exns: map[string]*thing{}}
	for _, f := range w.Files {
		o.files[f.Name] = f.Data
	}
	o.decs(l, o.first(), func(known) { o.end(api.Exited, 0) })
	for !o.over && !o.lost {
		o.go1()
	}
	return o.out, o.lost
}

func (o *oracle) end(status, code int) {
	if !o.over {
		o.over = true
		o.out.Status, o.out.Code = status, code
	}
}

func (o *oracle) say(kind int, name, s string) {
	last := len(o.out.Trace) - 1
	switch {
	case s == "":
	case last >= 0 && o.out.Trace[last].Kind == kind && o.out.Trace[last].Name == name:
		o.out.Trace[last].Text += s
	default:
		o.out.Trace = append(o.out.Trace, api.Event{Kind: kind, Name: name, Text: s})
	}
}

func (o *oracle) push(next func(v *thing)) { o.stack = append(o.stack, todo{next: next}) }

func (o *oracle) eval(e *api.Exp, at known, next func(v *thing)) {
	o.push(next)
	o.exp, o.at = e, at
}

func (o *oracle) ret(v *thing) { o.back = v }

func (o *oracle) raise(name string) { o.up = blk(0, o.exns[name], little(0)) }

func (o *oracle) spend(n int) bool {
	if n > o.left {
		o.end(api.Running, 0)
		return false
	}
	o.left -= n
	return true
}

func (o *oracle) pop() (t todo, is bool) {
	if len(o.stack) == 0 {
		return t, false
	}
	t = o.stack[len(o.stack)-1]
	o.stack = o.stack[:len(o.stack)-1]
	return t, true
}

// go1 does one thing.
func (o *oracle) go1() {
	switch {
	case o.exp != nil:
		e := o.exp
		o.exp = nil
		if o.spend(1) {
			o.look(e, o.at)
		}
	case o.up != nil:
		v := o.up
		o.up = nil
		t, is := o.pop()
		switch {
		case !is:
			o.say(api.EventErr, "", "uncaught exception "+v.kids[0].kids[0].s+"\n")
			o.end(api.Exited, 1)
		case t.next != nil || !o.first1(t.rules, v, t.at):
			o.up = v
		}
	default:
		v := o.back
		o.back = nil
		if t, _ := o.pop(); t.next != nil {
			t.next(v)
		} else {
			o.back = v // past a handler
		}
	}
}

// first1 goes on with the first rule that fits.
func (o *oracle) first1(rules []api.Rule, v *thing, at known) bool {
	for i := range rules {
		if k := o.fits(&rules[i].P, v, maps.Clone(at)); k != nil {
			o.exp, o.at = &rules[i].E, k
			return true
		}
	}
	return false
}

func (o *oracle) match(rules []api.Rule, v *thing, at known) {
	if !o.first1(rules, v, at) {
		o.raise("Match")
	}
}

// each evaluates expressions one behind the other.
func (o *oracle) each(l []api.Exp, at known, next func(all []*thing)) {
	var all []*thing
	var one func()
	one = func() {
		if len(all) == len(l) {
			next(all)
			return
		}
		o.eval(&l[len(all)], at, func(v *thing) {
			all = append(slices.Clone(all), v)
			one()
		})
	}
	one()
}

func (o *oracle) look(e *api.Exp, at known) {
	switch e.Kind {
	case api.ExpInt:
		n, is := big.Int64(e.Int)
		o.lost = o.lost || !is
		o.ret(num(n))
	case api.ExpReal:
		o.ret(float(math.Float64frombits(e.Bits)))
	case api.ExpChar:
		o.ret(little(int64(e.N)))
	case api.ExpText:
		o.ret(str(e.Text))
	case api.ExpVar:
		o.ret(at[e.Name].v)
	case api.ExpRecord:
		o.each(e.Kids, at, func(all []*thing) {
			m := map[string]*thing{}
			for i, label := range e.Labels {
				m[label] = all[i]
			}
			var sorted []*thing
			for _, label := range inOrder(e.Labels) {
				sorted = append(sorted, m[label])
			}
			o.ret(blk(0, sorted...))
		})
	case api.ExpList:
		o.each(e.Kids, at, func(all []*thing) {
			l := little(0)
			for _, x := range slices.Backward(all) {
				l = blk(1, blk(0, x, l))
			}
			o.ret(l)
		})
	case api.ExpSelect:
		place := slices.Index(inOrder(e.Labels), e.Name)
		o.ret(&thing{kind: 'f', call: func(o *oracle, v *thing) { o.ret(v.kids[place]) }})
	case api.ExpFn:
		o.ret(&thing{kind: 'f', call: func(o *oracle, v *thing) { o.match(e.Rules, v, at) }})
	case api.ExpApp:
		o.each(e.Kids, at, func(all []*thing) { all[0].call(o, all[1]) })
	default:
		o.control(e, at)
	}
}

func (o *oracle) control(e *api.Exp, at known) {
	jump := func(i int) { o.exp, o.at = &e.Kids[i], at }
	switch e.Kind {
	case api.ExpTyped:
		jump(0)
	case api.ExpLet:
		o.decs(e.Decs, at, func(k known) { o.exp, o.at = &e.Kids[0], k })
	case api.ExpCase:
		o.eval(&e.Kids[0], at, func(v *thing) { o.match(e.Rules, v, at) })
	case api.ExpIf:
		o.eval(&e.Kids[0], at, func(v *thing) { jump(2 - int(v.n)) })
	case api.ExpAnd, api.ExpOr:
		o.eval(&e.Kids[0], at, func(v *thing) {
			if (v.n == 1) == (e.Kind == api.ExpAnd) {
				jump(1)
			} else {
				o.ret(v)
			}
		})
	case api.ExpWhile:
		var again func(*thing)
		again = func(*thing) {
			o.eval(&e.Kids[0], at, func(v *thing) {
				if v.n == 0 {
					o.ret(blk(0))
				} else {
					o.eval(&e.Kids[1], at, again)
				}
			})
		}
		again(nil)
	case api.ExpRaise:
		o.eval(&e.Kids[0], at, func(v *thing) { o.up = v })
	case api.ExpHandle:
		o.stack = append(o.stack, todo{rules: e.Rules, at: at})
		jump(0)
	case api.ExpSeq:
		o.each(e.Kids, at, func(all []*thing) { o.ret(all[len(all)-1]) })
	}
}

// inOrder are labels in their order: numbers are filled with noughts, which stand ahead of letters.
func inOrder(labels []string) []string {
	key := func(l string) string {
		if _, err := strconv.Atoi(l); err == nil {
			return strings.Repeat("0", 70-len(l)) + l
		}
		return l
	}
	l := slices.Clone(labels)
	slices.SortFunc(l, func(a, b string) int { return strings.Compare(key(a), key(b)) })
	return l
}

// fits is what is known then, or nil; at is written.
func (o *oracle) fits(p *api.Pat, v *thing, at known) known {
	all := func(pats []api.Pat, values []*thing) known {
		for i := range pats {
			if at = o.fits(&pats[i], values[i], at); at == nil {
				return nil
			}
		}
		return at
	}
	is := false
	switch p.Kind {
	case api.PatWild:
		is = true
	case api.PatVar:
		o.put(at, p.Name, entry{v: v})
		is = true
	case api.PatInt:
		n, _ := big.Int64(p.Int)
		is = n == v.n
	case api.PatChar:
		is = v.n == int64(p.N)
	case api.PatText:
		is = v.s == p.Text
	case api.PatAs:
		o.put(at, p.Name, entry{v: v})
		return all(p.Kids, []*thing{v})
	case api.PatTyped:
		return all(p.Kids, []*thing{v})
	case api.PatRecord:
		var values []*thing
		for _, label := range p.Labels {
			values = append(values, v.kids[slices.Index(inOrder(p.Labels), label)])
		}
		return all(p.Kids, values)
	case api.PatList:
		var values []*thing
		for ; v.kind == 'b'; v = v.kids[0].kids[1] {
			values = append(values, v.kids[0].kids[0])
		}
		if len(values) != len(p.Kids) {
			return nil
		}
		return all(p.Kids, values)
	case api.PatCon:
		e := at[p.Name]
		switch {
		case e.cell != nil && v.kids[0] == e.cell:
			return all(p.Kids, v.kids[1:])
		case e.cell == nil && (v.kind == 'b') == (len(p.Kids) == 1) && v.n == e.tag:
			return all(p.Kids, v.kids)
		}
	}
	if !is {
		return nil
	}
	return at
}

func (o *oracle) decs(l []api.Dec, at known, next func(known)) {
	if len(l) == 0 {
		next(at)
		return
	}
	on := func(k known) { o.decs(l[1:], k, next) }
	switch d := &l[0]; d.Kind {
	case api.DecVal:
		o.eval(&d.Exps[0], at, func(v *thing) {
			if k := o.fits(&d.Pats[0], v, maps.Clone(at)); k != nil {
				on(k)
			} else {
				o.raise("Bind")
			}
		})
	case api.DecFun:
		at = maps.Clone(at)
		for i := range d.Funs {
			o.put(at, d.Funs[i].Name, entry{v: clauses(&d.Funs[i], at, nil)})
		}
		on(at)
	case api.DecData:
		for _, data := range d.Datas {
			for tag, c := range data.Cons {
				at = o.plus(at, c.Name, constructed(int64(tag), len(c.Types) == 1))
			}
		}
		on(at)
	case api.DecExn:
		on(o.plus(at, d.Name, excepted(&thing{kind: 'k', kids: []*thing{str(d.Name)}}, len(d.Types) == 1)))
	case api.DecStruct:
		if len(d.Names) == 1 {
			on(at.under(d.Name, at, d.Names[0]+"."))
			return
		}
		marked := maps.Clone(at)
		o.decs(d.Decs, marked, func(k known) {
			inner := known{}
			for name, e := range k {
				if old, is := marked[name]; !is || old.id != e.id {
					inner[name] = e
				}
			}
			on(at.under(d.Name, inner, ""))
		})
	default:
		on(at)
	}
}

// under is what is known if the names of k that begin so are known under a structure's name.
func (k known) under(structure string, inner known, ahead string) known {
	out := known{}
	for name, e := range k {
		if !strings.HasPrefix(name, structure+".") {
			out[name] = e
		}
	}
	for name, e := range inner {
		if rest, is := strings.CutPrefix(name, ahead); is {
			out[structure+"."+rest] = e
		}
	}
	return out
}

func clauses(f *api.Fun, at known, args []*thing) *thing {
	return &thing{kind: 'f', call: func(o *oracle, v *thing) {
		all := append(slices.Clone(args), v)
		if len(all) < f.Many {
			o.ret(clauses(f, at, all))
			return
		}
	clause:
		for i := range f.Clauses {
			k := maps.Clone(at)
			for j := range all {
				if k = o.fits(&f.Clauses[i].Pats[j], all[j], k); k == nil {
					continue clause
				}
			}
			o.exp, o.at = &f.Clauses[i].E, k
			return
		}
		o.raise("Match")
	}}
}

func constructed(tag int64, arg bool) entry {
	if arg {
		return entry{tag: tag, v: &thing{kind: 'f', call: func(o *oracle, v *thing) { o.ret(blk(tag, v)) }}}
	}
	return entry{tag: tag, v: little(tag)}
}

func excepted(cell *thing, arg bool) entry {
	if arg {
		return entry{cell: cell, v: &thing{kind: 'f', call: func(o *oracle, v *thing) { o.ret(blk(0, cell, v)) }}}
	}
	return entry{cell: cell, v: blk(0, cell, little(0))}
}
