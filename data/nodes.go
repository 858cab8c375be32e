package data

import (
	"smithy/api"
	"smithy/build"
)

// flow writes a node, whose number is at, and what stands below it.
func (w *writer) flow(f *api.Flow, at int, next behind) {
	w.tell()
	w.Forget(freeReg)
	if w.Many() > w.most {
		w.apart(f, at, next)
		return
	}
	switch f.Kind {
	case api.FlowRet:
		w.returns(w.atom(&f.A, w.read(at, 0)), next)
	case api.FlowRaise:
		w.Store(w.Data(build.RaisedAt), 0, w.atom(&f.A, w.read(at, 0)))
		w.Jump(next.raise)
	case api.FlowLet:
		w.let(&f.Op, at, next)
		w.flow(&f.Kids[0], at+1, next)
	case api.FlowIf:
		w.either(f, at, next)
	case api.FlowSwitch:
		w.choose(f, at, next)
	case api.FlowTail:
		w.tail(f, at, next)
	case api.FlowGo:
		w.goOn(f, at, next)
	case api.FlowTry:
		w.try(f, at, next)
	}
}

// returns goes on with what the function, or a try's kid, returns.
func (w *writer) returns(value build.Reg, next behind) {
	if !next.inTry() {
		w.Ret(value)
		return
	}
	w.Into(doneReg, value)
	w.Jump(next.join)
}

// kid writes one of several nodes, of which just one is gone on with.
func (w *writer) kid(f *api.Flow, at int, next behind) {
	w.enter(at, w.ends[at])
	w.flow(f, at, next)
}

// either writes a FlowIf.
func (w *writer) either(f *api.Flow, at int, next behind) {
	yes := w.NewLabel()
	w.Branch(w.atom(&f.A, w.read(at, 0)), api.CondNe, w.Const(build.Small0), yes)
	saved := w.saved()
	w.kid(&f.Kids[1], w.ends[at+1]+1, next)
	w.back(saved)
	w.Place(yes)
	w.kid(&f.Kids[0], at+1, next)
}

// try writes a FlowTry. What lies where behind it is what lay there ahead of it: what is wanted there stays in its place, and what lies
// below that is always some value.
func (w *writer) try(f *api.Flow, at int, next behind) {
	first := at + 1
	second := w.ends[first] + 1
	third := w.ends[second] + 1
	caught, join := w.NewLabel(), w.NewLabel()
	saved := w.saved()

	release := w.keep(second, w.ends[at])
	w.kid(&f.Kids[0], first, behind{caught, join})
	release()
	w.restore(saved, caught)
	release = w.keep(third, w.ends[at])
	w.enter(second, w.ends[second])
	w.caught(w.sets[at][0], second)
	w.flow(&f.Kids[1], second, behind{next.raise, join})
	release()
	w.restore(saved, join)
	w.enter(third, w.ends[at])
	w.define(w.sets[at][1], doneReg, third)
	w.flow(&f.Kids[2], third, next)
}

// restore goes on at a label that is come to from within a try.
func (w *writer) restore(saved []int, here build.Label) {
	w.back(saved)
	w.spoil()
	w.Place(here)
	w.Forget(freeReg)
}

// caught makes a value of what was raised. The collector's word for it lets it go.
func (w *writer) caught(x, at int) {
	raised := w.Data(build.RaisedAt)
	value := w.Load(raised, 0)
	w.Store(raised, 0, w.Const(build.Small0))
	w.define(x, value, at)
}

// define sets a value, unless neither the nodes from at on nor those behind tries about these want it.
func (w *writer) define(x int, value build.Reg, at int) {
	if w.isWanted(x, at, w.ends[at]) {
		w.Store(baseReg, w.put(x)*build.WordBytes, value)
	}
}

// atom is what an atom is: of a local, the value x.
func (w *writer) atom(a *api.Atom, x int) build.Reg {
	if a.Kind == api.AtomVar {
		return w.Load(baseReg, w.home[x]*build.WordBytes)
	}
	c, inData := w.constant(a)
	if inData {
		return w.Data(int(c))
	}
	return w.Const(c)
}
