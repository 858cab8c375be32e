package types

import "smithy/api"

// fault is thrown where no types can be given.
type fault struct{}

// must throws a fault, unless all is well.
func must(well bool) {
	if !well {
		panic(fault{})
	}
}

// checker gives types to declarations, one behind the other, and writes into them what it finds out.
type checker struct {
	known
	basis
	outermost
	path   string         // the names of the structures about, each with a dot
	made   map[string]int // how many constructors of types are told so, but for what tells them apart
	here   *structure     // the one whose declarations are gone through
	level  int            // how many val and fun are about
	left   int            // how many steps a walk through types may still do
	rounds int            // of types being put for others
	open   []*ty          // types of expressions and patterns that may still become greater
}

// checked are the declarations and the values of them, if the rules give them types.
func checked(l []api.Dec) (decs []api.Dec, values []api.Named, fine bool) {
	defer func() {
		if recover() != nil {
			decs, values, fine = nil, nil, false
		}
	}()
	decs, values = given(l)
	return decs, values, true
}

// given are declarations to which types are given, and the values of them.
func given(l []api.Dec) ([]api.Dec, []api.Named) {
	decs := copied(l)
	c := newChecker()
	c.decs(decs)
	c.measured(c.open)
	return decs, c.told()
}

func newChecker() *checker {
	c := &checker{made: map[string]int{}, here: &structure{}}
	c.enterStruct()
	c.begin()
	return c
}

// Walks through types end where a type is too great: one that is met in an expression has at most MaxType parts, and none
// of them is looked at more than a few times; those that only specifications speak of may have more.
const (
	steps       = 8 * api.MaxType
	manySteps   = 1 << 24
	mostStacked = 1 << 17
)

// step is one step of a walk, so deep in a type.
func (c *checker) step(deep int) {
	c.left--
	must(c.left >= 0 && deep < mostStacked)
}
