package elab

import (
	"slices"
	"strconv"

	"smithy/api"
)

// builtIn is how many built-in exceptions there are.
const builtIn = api.ExnChr + 1

// maker makes terms. Of what can't be made it makes the term, the shape of no kind: no term with such in it may be.
type maker struct {
	names int             // how many were made
	open  int             // how many declarations there are behind each of which the next one stands
	cells [builtIn]string // names that hold the cells of built-in exceptions, where a pattern asks for them
}

// program is the term of declarations. What it is worth doesn't matter.
func (m *maker) program(l []api.Dec) api.Core {
	c := m.decs(l, atFirst().within(), func(*scope) api.Core { return unit() })
	for number, name := range slices.Backward(m.cells[:]) {
		if name != "" {
			c = let(name, api.Core{Kind: api.CoreExn, N: number}, c)
		}
	}
	return c
}

// newName is a name that there is nowhere else: by its number; what it stands for is told ahead of that.
func (m *maker) newName(like string) string {
	m.names++
	return like[:min(len(like), api.MaxName)] + "." + strconv.Itoa(m.names)
}

// newNames are so many of them.
func (m *maker) newNames(many int, like string) []string {
	names := make([]string, many)
	for i := range many {
		names[i] = m.newName(like)
	}
	return names
}

// named is what whole makes of a name that holds a term's value. A name that does so already is taken.
func (m *maker) named(c api.Core, like string, whole func(name string) api.Core) api.Core {
	if c.Kind == api.CoreVar {
		return whole(c.Name)
	}
	name := m.newName(like)
	return let(name, c, whole(name))
}

// waiting is a term that is worked out ahead, and the name that holds its value.
type waiting struct {
	name string
	term api.Core
}

// laid is what whole makes of terms, each laid at its place. They are worked out as they stand: if whole would work them out
// in another order, those ahead are by lets, and only the last one is left that is not quiet.
func (m *maker) laid(terms []api.Core, places []int, whole func(laid []api.Core) api.Core) api.Core {
	laid := make([]api.Core, len(terms))
	for i, place := range places {
		laid[place] = terms[i]
	}
	var ahead []waiting
	for _, i := range outOfOrder(terms, places) {
		w := waiting{m.newName("part"), terms[i]}
		ahead = append(ahead, w)
		laid[places[i]] = variable(w.name)
	}
	c := whole(laid)
	for _, w := range slices.Backward(ahead) {
		c = let(w.name, w.term, c)
	}
	return c
}

// outOfOrder are those terms that must be worked out ahead: none, if all that are not quiet are laid in the order in which
// they stand, else all of these but the last one.
func outOfOrder(terms []api.Core, places []int) []int {
	var loud []int
	for i := range terms {
		if !isQuiet(&terms[i]) {
			loud = append(loud, i)
		}
	}
	if slices.IsSortedFunc(loud, func(i, j int) int { return places[i] - places[j] }) {
		return nil
	}
	return loud[:len(loud)-1]
}

// isQuiet tells whether it doesn't matter when a term is worked out. (Others may be quiet, too.)
func isQuiet(c *api.Core) bool {
	switch c.Kind {
	case api.CoreVar, api.CoreInt, api.CoreSmall, api.CoreReal, api.CoreText, api.CoreExn, api.CoreFn:
		return true
	case api.CoreField:
		return isQuiet(&c.Kids[0])
	}
	return false
}
