package close

import (
	"slices"

	"smithy/api"
)

// term is a Core term whose names are numbers. Names that are bound at two places are two numbers, so that what is gone on with
// may be made wherever it comes to stand: no name hides another there.
type term struct {
	kind int
	core *api.Core // what else is told of it
	name int       // the one that it binds; of a variable the one that it is
	kids []term
	fn   *function // of a CoreFn
	back bool      // false: it surely raises, or ends the run, instead of having a value
}

// function is a CoreFn, or all of a term, which is the function about all others.
type function struct {
	about  *function
	self   int // the name by which it knows itself
	param  int
	body   term
	gives  *function // of which a closure is what it returns, if that is known
	free   []int     // the names that it captures
	places map[int]int
	number int // in the program; 0 till it has one
}

// name is where a name is known without being captured: in the function in which it is bound, and in the one that it is.
type name struct {
	home *function
	self *function
}

// namer numbers names, and finds out what functions capture.
type namer struct {
	names    []name
	bound    map[string][]int // what each text stands for, the innermost one last
	within   *function
	captured int // by all functions
}

// numbered is a term as a function, and how many names it has.
func numbered(c *api.Core) (*function, int) {
	n := &namer{bound: map[string][]int{}, within: &function{}}
	all := n.within
	all.body = n.term(c)
	return all, len(n.names)
}

// fresh is a name's number.
func (n *namer) fresh(self *function) int {
	n.names = append(n.names, name{n.within, self})
	return len(n.names) - 1
}

// binds is what is made while a text stands for a name.
func (n *namer) binds(text string, name int, inner func() term) term {
	n.bound[text] = append(n.bound[text], name)
	t := inner()
	n.bound[text] = n.bound[text][:len(n.bound[text])-1]
	return t
}

func (n *namer) term(c *api.Core) term {
	switch c.Kind {
	case api.CoreVar:
		return n.variable(c)
	case api.CoreFn:
		return n.fn(c, n.fresh(nil), &function{})
	case api.CoreRec:
		return n.rec(c)
	case api.CoreLet:
		return n.let(c, c.Name, &c.Kids[0], &c.Kids[1])
	case api.CoreHandle:
		t := n.let(c, c.Name, &c.Kids[0], &c.Kids[1])
		t.kind, t.back = api.CoreHandle, t.kids[0].back || t.kids[1].back
		return t
	case api.CoreApp:
		// A function that is applied where it is made needs no closure: its parameter is as good as a let.
		if f := &c.Kids[0]; f.Kind == api.CoreFn {
			return n.let(c, f.Name, &c.Kids[1], &f.Kids[0])
		}
	}
	t := term{kind: c.Kind, core: c, kids: make([]term, len(c.Kids))}
	for i := range c.Kids {
		t.kids[i] = n.term(&c.Kids[i])
	}
	t.back = comesBack(&t)
	return t
}

func (n *namer) variable(c *api.Core) term {
	all := n.bound[c.Name]
	t := term{kind: api.CoreVar, core: c, name: all[len(all)-1], back: true}
	n.use(t.name)
	return t
}

// use lets the functions about a variable capture its name, up to one that knows it. Beyond a bound it is left, so that it
// takes no more room than what may be made: each of what is captured would be a node at least.
func (n *namer) use(name int) {
	known := n.names[name]
	for f := n.within; f != known.home && f != known.self; f = f.about {
		if _, has := f.places[name]; has || n.captured > api.MaxCode {
			return
		}
		if f.places == nil {
			f.places = map[int]int{}
		}
		f.places[name] = len(f.free)
		f.free = append(f.free, name)
		n.captured++
	}
}

// fn is a function that knows itself by a name.
func (n *namer) fn(c *api.Core, self int, f *function) term {
	f.about, f.self = n.within, self
	n.within = f
	f.param = n.fresh(nil)
	f.body = n.binds(c.Name, f.param, func() term { return n.term(&c.Kids[0]) })
	f.gives = made(&f.body)
	n.within = f.about
	return term{kind: api.CoreFn, core: c, fn: f, back: true}
}

// made is the function of which a closure is what a term makes, if it does so last of all.
func made(t *term) *function {
	for t.kind == api.CoreLet || t.kind == api.CoreRec {
		t = &t.kids[len(t.kids)-1]
	}
	return t.fn
}

// let is a term whose second part knows by a name what the first one is.
func (n *namer) let(c *api.Core, text string, first, second *api.Core) term {
	t := term{kind: api.CoreLet, core: c, kids: make([]term, 2)}
	t.kids[0] = n.term(first)
	t.name = n.fresh(nil)
	t.kids[1] = n.binds(text, t.name, func() term { return n.term(second) })
	t.back = comesBack(&t)
	return t
}

// rec is functions that know each other, and what knows them.
func (n *namer) rec(c *api.Core) term {
	funs := make([]function, len(c.Names))
	names := make([]int, len(c.Names))
	for i := range funs {
		names[i] = n.fresh(&funs[i])
	}
	t := term{kind: api.CoreRec, core: c, kids: make([]term, len(c.Kids))}
	for i, text := range c.Names {
		n.bound[text] = append(n.bound[text], names[i])
	}
	for i := range funs {
		t.kids[i] = n.fn(&c.Kids[i], names[i], &funs[i])
	}
	t.kids[len(funs)] = n.term(&c.Kids[len(funs)])
	for _, text := range c.Names {
		n.bound[text] = n.bound[text][:len(n.bound[text])-1]
	}
	t.back = comesBack(&t)
	return t
}

// comesBack tells whether a term may have a value, by what is known of its kids.
func comesBack(t *term) bool {
	some := func(l []term) bool { return slices.ContainsFunc(l, func(kid term) bool { return kid.back }) }
	all := func(l []term) bool { return !slices.ContainsFunc(l, func(kid term) bool { return !kid.back }) }
	switch t.kind {
	case api.CoreIf, api.CoreSwitch:
		return t.kids[0].back && some(t.kids[1:])
	case api.CoreRaise:
		return false
	case api.CorePrim:
		return t.core.Name != "exit" && all(t.kids)
	}
	return all(t.kids)
}
