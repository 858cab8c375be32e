package flow

import "smithy/prim"

// locals are those of one call: what it was given, and what was set since. A function may say that it has far more than it ever
// sets, and may call itself without end: so there is no room for what was not set.
type locals struct {
	given []prim.Value
	set   map[int]prim.Value
}

func (l *locals) value(local int) prim.Value {
	if v, is := l.set[local]; is {
		return v
	}
	return l.given[local]
}

func (l *locals) put(local int, v prim.Value) {
	if l.set == nil {
		l.set = map[int]prim.Value{}
	}
	l.set[local] = v
}

// closure is a function's number, and what it has captured.
type closure struct {
	function int
	captured []prim.Value
}

// asClosure is a value that is a closure. The run is stuck, if it is none.
func asClosure(v prim.Value) *closure { return prim.As[*closure](v) }

// entered is the function of a closure, and what it is given where the closure is applied to something.
func entered(f, to prim.Value) (function int, args []prim.Value) {
	return asClosure(f).function, []prim.Value{f, to}
}
