package data

import (
	"smithy/api"
	"smithy/build"
)

const (
	argumentWords = 4 // held words that a function of values is handed
	capturedAt    = 2 * build.WordBytes
	fieldsAt      = build.WordBytes
)

// let writes a FlowLet, but for what it goes on with.
func (w *writer) let(o *api.Op, at int, next behind) {
	x := w.sets[at][0]
	if isQuiet(o) && !w.isWanted(x, at+1, w.ends[at]) {
		w.drop(at)
		return
	}
	w.define(x, w.op(o, at, next), at+1)
}

// isQuiet tells whether an operation does nothing but answer.
func isQuiet(o *api.Op) bool {
	switch o.Kind {
	case api.OpAtom, api.OpBlock, api.OpField, api.OpClosure, api.OpCapture:
		return true
	}
	return false
}

// op is what an operation answers.
func (w *writer) op(o *api.Op, at int, next behind) build.Reg {
	switch o.Kind {
	case api.OpPrim:
		return w.prim(o, at, next)
	case api.OpCall:
		return w.call(o.Args, at, next, w.named(o.F))
	case api.OpApply:
		return w.call(o.Args, at, next, w.applied)
	case api.OpBlock:
		return w.newBlock(o, at)
	case api.OpClosure:
		return w.newClosure(o, at)
	case api.OpPatch:
		return w.patch(o, at)
	}
	out := w.atom(&o.Args[0], w.read(at, 0))
	switch o.Kind {
	case api.OpField:
		out = w.Load(out, fieldsAt+o.N*build.WordBytes)
	case api.OpCapture:
		out = w.Load(out, capturedAt+o.N*build.WordBytes)
	}
	w.drop(at)
	return out
}

// prim is what a primitive answers. Held words that it isn't handed as arguments are small numbers.
func (w *writer) prim(o *api.Op, at int, next behind) build.Reg {
	p := w.handFew(o.Args, w.readBy(at), func() int {
		w.drop(at)
		w.wipe()
		return len(w.places)
	})
	w.noughtsBetween(p+len(o.Args), p+argumentWords)
	w.top(p + argumentWords)
	answer := w.Call(w.primitive(o.Name), w.held(p))
	w.checked(answer, next)
	return answer
}

// newBlock is a new block.
func (w *writer) newBlock(o *api.Op, at int) build.Reg {
	tag := w.tag(o.N)
	if len(o.Args) == 0 {
		return w.Data(w.block(tag))
	}
	return w.thing(api.HeapBlock, tag, nil, o.Args, at)
}

// newClosure is a new closure.
func (w *writer) newClosure(o *api.Op, at int) build.Reg {
	f := w.funs + o.F
	if len(o.Args) == 0 {
		return w.Data(w.closure(f))
	}
	return w.thing(api.HeapClosure, 0, []int{f}, o.Args, at)
}

// thing is a new thing: the addresses of functions, and values.
func (w *writer) thing(kind, tag int, functions []int, values []api.Atom, at int) build.Reg {
	words := len(functions) + len(values)
	w.wipe()
	w.top(len(w.places))
	out := w.Call(w.collector+allocFunction, w.Const(int64(1+words)*build.WordBytes))
	w.again()
	w.Store(out, 0, w.Const(build.Header(int64(kind), int64(words))|int64(tag)<<build.TagAt))
	place := build.WordBytes
	for _, f := range functions {
		w.Store(out, place, w.Address(f))
		place += build.WordBytes
	}
	w.lay(values, w.readBy(at), out, place)
	w.drop(at)
	return out
}

// patch sets what a closure has captured, and tells the collector.
func (w *writer) patch(o *api.Op, at int) build.Reg {
	w.top(len(w.places))
	closure := w.atom(&o.Args[0], w.read(at, 0))
	w.Store(closure, capturedAt+o.N*build.WordBytes, w.atom(&o.Args[1], w.read(at, 1)))
	w.Call(w.collector+markFunction, closure)
	w.again()
	w.drop(at)
	return w.Data(w.unitAt)
}
