// Package prim is what the runs of all languages have in common: values, steps, what is thrown, the end, the primitives.
package prim

import (
	"strings"

	"smithy/api"
	"smithy/world"
)

// Run is a program's run: the world that it is in, the steps that it may still do, the built-in exceptions.
type Run struct {
	world      *world.World
	left       int
	exceptions [builtIn]*Cell
}

// Raised is thrown where a program raises a value.
type Raised struct{ Value Value }

// Over is thrown where a run is over.
type Over struct{ Status, Code int }

// New is a run as it begins.
func New(w api.World, fuel int) *Run {
	r := &Run{world: world.New(w), left: fuel}
	for i, name := range strings.Fields(exceptionNames) {
		r.exceptions[i] = Exception(name)
	}
	return r
}

// Step is one step.
func (r *Run) Step() { r.Spend(1) }

// Spend does so many steps; the run is over, if they are more than are left.
func (r *Run) Spend(steps int) {
	if steps > r.left {
		panic(Over{Status: api.Running})
	}
	r.left -= steps
}

// BuiltIn are the cells of the built-in exceptions, by their numbers.
func (r *Run) BuiltIn() [builtIn]*Cell { return r.exceptions }

// Raise raises a value. That it is said to answer one lets it stand where one is answered.
func Raise(v Value) Value { panic(Raised{v}) }

// RaiseBuiltIn raises the built-in exception of that number.
func (r *Run) RaiseBuiltIn(number int) Value { return Raise(Pack(r.exceptions[number], Small(0))) }

// Must lets the run be stuck, unless all is well.
func Must(well bool) {
	if !well {
		panic(Over{Status: api.Stuck})
	}
}

// Try is what do answers, or what it raises. That the run is over is thrown on, and from here: thrown on while it is being
// caught, it would go through all that is about it once more for each handler.
func Try(do func() Value) (v Value, raised *Raised) {
	v, thrown := caught(do)
	switch x := thrown.(type) {
	case nil:
		return v, nil
	case Raised:
		return nil, &x
	}
	panic(thrown)
}

// caught is what do answers, or what it throws.
func caught(do func() Value) (v Value, thrown any) {
	defer func() {
		thrown = recover()
	}()
	return do(), nil
}

// Outcome does a program, and tells what comes of it.
func (r *Run) Outcome(program func()) api.Outcome {
	_, thrown := caught(func() Value {
		program()
		return nil
	})
	out := r.end(thrown)
	out.Trace = r.world.Trace()
	return out
}

// end is how a run ends that has thrown something, or nothing.
func (r *Run) end(thrown any) api.Outcome {
	switch x := thrown.(type) {
	case nil:
		return api.Outcome{Status: api.Exited}
	case Raised:
		r.world.Err("uncaught exception " + nameOf(x.Value) + "\n")
		return api.Outcome{Status: api.Exited, Code: 1}
	case Over:
		return api.Outcome{Status: x.Status, Code: x.Code}
	}
	return api.Outcome{Status: api.Stuck}
}

// nameOf is the name of an exception that was raised.
func nameOf(raised Value) string {
	if b, is := raised.(*Block); is && len(b.Fields) > 0 {
		if c, is := b.Fields[0].(*Cell); is {
			if name, is := c.In.(Text); is {
				return string(name)
			}
		}
	}
	return "?"
}
