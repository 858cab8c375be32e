package core

import (
	"slices"

	"smithy/api"
	"smithy/prim"
)

// function is a CoreFn, and what was known where it was made.
type function struct {
	fn    *api.Core
	known *scope
}

// scope is a name that is known, or those of a rec, ahead of which others were.
type scope struct {
	name  string
	bound prim.Value
	rec   *api.Core // nil: it is one name
	ahead *scope
}

// with is a scope in which a name is known, too.
func (s *scope) with(name string, v prim.Value) *scope {
	return &scope{name: name, bound: v, ahead: s}
}

// withRec is a scope in which the names of a rec are known, too. Its functions are made when they are asked for: nothing tells
// two apart that are made of one, and so a rec takes no longer, however many it has.
func (s *scope) withRec(c *api.Core) *scope { return &scope{rec: c, ahead: s} }

// value is what a name is. A run in which it is nothing is stuck.
func (s *scope) value(name string) prim.Value {
	for ; s != nil; s = s.ahead {
		if s.rec == nil {
			if s.name == name {
				return s.bound
			}
		} else if place := slices.Index(s.rec.Names, name); place >= 0 {
			return &function{&s.rec.Kids[place], s}
		}
	}
	prim.Must(false)
	return nil
}
