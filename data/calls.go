package data

import (
	"smithy/api"
	"smithy/build"
)

const (
	handful    = 6  // how many things are done one by one: arguments lie in registers while they are handed on, held words are wiped
	mostStores = 24 // how many values are laid by an instruction for each
	heldMark   = 2  // what tells a held word's place, of these bits
	heldBits   = 3
)

// again gets where the held words begin: no register outlives a call.
func (w *writer) again() { w.Into(baseReg, w.Kept(w.slot)) }

// checked goes on with what is raised, if the answer of a call says that something is.
func (w *writer) checked(answer build.Reg, next behind) {
	w.again()
	w.Branch(answer, api.CondEq, w.Const(0), next.raise)
}

// answered goes on with what a call has answered in a node's place.
func (w *writer) answered(answer build.Reg, next behind) {
	w.checked(answer, next)
	w.returns(answer, next)
}

// wipe has no place have a value that nobody wants: the collector would keep it.
func (w *writer) wipe() {
	var all []int
	for at, x := range w.places {
		if x == stale {
			all = append(all, at)
			w.places[at] = clean
		}
	}
	if len(all) > handful {
		w.wipeMany(all)
		return
	}
	w.noughts(all)
}

// noughts sets held words to the small number 0.
func (w *writer) noughts(all []int) {
	if len(all) == 0 {
		return
	}
	nought := w.Const(build.Small0)
	for _, at := range all {
		w.Store(baseReg, at*build.WordBytes, nought)
	}
}

// noughtsBetween sets those from one on, up to another one.
func (w *writer) noughtsBetween(from, to int) {
	var all []int
	for at := from; at < to; at++ {
		all = append(all, at)
	}
	w.noughts(all)
}

// wipeMany sets many of them, as a row of bytes in the data says.
func (w *writer) wipeMany(all []int) {
	from, end := all[0], all[len(all)-1]+1
	said := make([]byte, end-from)
	for _, at := range all {
		said[at-from] = 1
	}
	say := w.Add(w.Data(w.text(string(said))), w.Const(build.WordBytes))
	at, last := w.held(from), w.held(end)
	zero, one, word, nought := w.Const(0), w.Const(1), w.Const(build.WordBytes), w.Const(build.Small0)
	w.While(at, api.CondLtu, last, func() {
		w.When(w.LoadByte(say), api.CondNe, zero, func() { w.Store(at, 0, nought) })
		w.Advance(say, one)
		w.Advance(at, word)
	})
}

// leastWords is how many held words the call has while it calls another function of the program: open calls never are too many.
func (w *writer) leastWords() int { return callWords * (1 + w.within) }

// pad makes the held words as many as they must be at least, and answers how many there are.
func (w *writer) pad() int {
	w.wipe()
	least := max(len(w.places), w.leastWords())
	w.noughtsBetween(len(w.places), least)
	w.reach(least)
	return least
}

// held is the address of a held word.
func (w *writer) held(at int) build.Reg { return w.Add(baseReg, w.Const(int64(at)*build.WordBytes)) }

// top has so many held words be looked at by the collector.
func (w *writer) top(words int) {
	w.reach(words)
	w.Store(w.Data(topAt), 0, w.held(words))
}

// drop lets the values go that a node was the last one to read.
func (w *writer) drop(at int) {
	w.letGo(w.readBy(at), func(x int) bool { return w.isWanted(x, at+1, w.ends[at]) })
}

// hand lays arguments among the held words. Ready lets go what isn't wanted behind the node, and answers where they are to lie. That
// may be where others of them still lie: few of them are in registers meanwhile, many behind all that is held.
func (w *writer) hand(args []api.Atom, values []int, ready func() int) int {
	if len(args) <= handful {
		return w.handFew(args, values, ready)
	}
	from := max(len(w.places), w.leastWords())
	w.reach(from + len(args))
	w.lay(args, values, baseReg, from*build.WordBytes)
	w.Forget(freeReg)
	to := ready()
	if to < from {
		w.moveDown(to, from, len(args))
	}
	return to
}

// lay lays values from a place behind an address on. (No other register is read behind it but those up to that one's.)
func (w *writer) lay(all []api.Atom, values []int, at build.Reg, place int) {
	free := max(at+1, freeReg)
	if len(all) > mostStores {
		w.Forget(free)
		w.layMany(w.row(all, values), len(all), w.Add(at, w.Const(int64(place))))
		return
	}
	for i := range all {
		w.Forget(free)
		w.Store(at, place+i*build.WordBytes, w.atom(&all[i], values[i]))
	}
}

// row is where words lie in the data that tell what values are: these themselves, or the places of held words, which are neither odd,
// as small numbers are, nor such that 8 divides them, as it does addresses.
func (w *writer) row(all []api.Atom, values []int) int {
	var words []uint64
	for i := range all {
		if all[i].Kind == api.AtomVar {
			words = append(words, heldMark+build.WordBytes*uint64(w.home[values[i]]))
			continue
		}
		x, inData := w.constant(&all[i])
		if inData {
			x += api.DataBase
		}
		words = append(words, uint64(x))
	}
	at := w.room(len(words) * build.WordBytes)
	for _, x := range words {
		w.word(x)
	}
	return at
}

// layMany lays what a row of the data tells, from an address on.
func (w *writer) layMany(row, many int, to build.Reg) {
	at, end := w.Data(row), w.Data(row+(many-1)*build.WordBytes)
	mark, bits, word := w.Const(heldMark), w.Const(heldBits), w.Const(build.WordBytes)
	w.While(at, api.CondLeu, end, func() {
		x := w.Load(at, 0)
		w.When(w.And(x, bits), api.CondEq, mark, func() { w.Into(x, w.Load(w.Add(baseReg, x), -heldMark)) })
		w.Store(to, 0, x)
		w.Advance(at, word)
		w.Advance(to, word)
	})
}

func (w *writer) handFew(args []api.Atom, values []int, ready func() int) int {
	var all []build.Reg
	for i := range args {
		all = append(all, w.atom(&args[i], values[i]))
	}
	to := ready()
	for i, r := range all {
		w.Store(baseReg, (to+i)*build.WordBytes, r)
	}
	w.reach(to + len(args))
	return to
}

// moveDown moves held words to a place ahead of theirs.
func (w *writer) moveDown(to, from, many int) {
	there, here, end, word := w.held(to), w.held(from), w.held(from+many), w.Const(build.WordBytes)
	w.While(here, api.CondLtu, end, func() {
		w.Store(there, 0, w.Load(here, 0))
		w.Advance(there, word)
		w.Advance(here, word)
	})
}

// call writes what calls another function of the program, and answers that one's answer; the function is called by what how writes, which
// is handed where its held words begin.
func (w *writer) call(args []api.Atom, at int, next behind, how func(base build.Reg) build.Reg) build.Reg {
	to := w.hand(args, w.readBy(at), func() int {
		w.drop(at)
		return w.pad()
	})
	answer := how(w.held(to))
	w.checked(answer, next)
	return answer
}

// named calls a function by its number.
func (w *writer) named(f int) func(base build.Reg) build.Reg {
	return func(base build.Reg) build.Reg { return w.Call(w.funs+f, base) }
}

// applied calls the function of the closure that is the first argument.
func (w *writer) applied(base build.Reg) build.Reg { return w.Apply(w.code(base), base) }

// code is the address of the function of the closure that the first one of held words is.
func (w *writer) code(base build.Reg) build.Reg { return w.Load(w.Load(base, 0), build.WordBytes) }

// inPlace lays arguments where the call's own held words are, which are all let go.
func (w *writer) inPlace(args []api.Atom, at int) {
	w.hand(args, w.readBy(at), func() int { return 0 })
}

// comesBack tells whether the call's held words are needed behind a node: what goes on in the place of a try's kid is called.
func (w *writer) comesBack(next behind) bool { return next.inTry() || w.within > 0 }

// tail writes a FlowTail.
func (w *writer) tail(f *api.Flow, at int, next behind) {
	if w.comesBack(next) {
		w.returns(w.call(f.Args, at, next, w.named(f.F)), next)
		return
	}
	w.inPlace(f.Args, at)
	w.Tail(w.funs+f.F, baseReg)
}

// goOn writes a FlowGo.
func (w *writer) goOn(f *api.Flow, at int, next behind) {
	args := append([]api.Atom{f.A}, f.Args...)
	if w.comesBack(next) {
		w.returns(w.call(args, at, next, w.applied), next)
		return
	}
	w.inPlace(args, at)
	w.Go(w.code(baseReg), baseReg)
}
