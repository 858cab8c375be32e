package data

import (
	"strconv"

	"smithy/api"
	"smithy/build"
)

const (
	partLines = 49152 // how many instructions a word function has at most, but for those of one node more
	callWords = 2     // held words of each open call at least
)

// Registers of each word function: where the call's held words begin, what a try's kid has returned, and the first one that is free.
const (
	baseReg build.Reg = iota
	doneReg
	freeReg
)

// writer writes a function: what is known of the whole program, the word function that is written, the call's held words.
type writer struct {
	*maker
	*build.Builder
	*frame
	name      string
	slot      int    // the one that where the held words begin is kept in
	counted   int    // how many of the word function's instructions were counted
	within    int    // how many parts are called about this one, as it isn't written behind them
	outermost behind // what is behind nodes that are in no try
}

// behind is where it goes on behind a node.
type behind struct {
	raise build.Label // where what is raised goes: the value stands in the collector's word for it
	join  build.Label // where it goes on with what a try's kid returns; 0, if the function returns it
}

func (n behind) inTry() bool { return n.join > 0 }

// part writes a word function: it has the held words' beginning as its parameter.
func (w *writer) part(name string, write func(w *writer)) api.WordFunction {
	return build.Function(name, 1, func(b *build.Builder) {
		inner := *w
		inner.Builder, inner.counted = b, 0
		inner.Forget(freeReg)
		inner.slot = b.Keep(baseReg)
		inner.outermost = behind{raise: b.NewLabel()}
		write(&inner)
		b.Place(inner.outermost.raise)
		b.Ret(b.Const(0))
		inner.tell()
	})
}

// tell tells the maker how much was written.
func (w *writer) tell() {
	w.count(w.Many() - w.counted)
	w.counted = w.Many()
}

// mustFit ends the program, unless there is room for the call's held words; how many these are is known once the answer is called.
func (w *writer) mustFit() (known func()) {
	limit := w.Load(w.Data(w.limitAt), 0)
	need, tell := w.Later()
	w.When(limit, api.CondLtu, w.Add(baseReg, need), func() { w.Tail(w.collector + fullFunction) })
	return func() { tell(int64(w.needs) * build.WordBytes) }
}

// apart writes a node into a word function of its own, as this one is long enough. All that it needs lies among the held words.
func (w *writer) apart(f *api.Flow, at int, next behind) {
	number := len(w.words)
	w.words = append(w.words, api.WordFunction{})
	inner := *w
	if next.inTry() {
		inner.within++
		w.answered(w.Call(number, baseReg), next)
	} else {
		w.Tail(number, baseReg)
	}
	w.tell()
	part := inner.part(w.name+"."+strconv.Itoa(number), func(w *writer) { w.flow(f, at, w.outermost) })
	w.words[number] = part
}
