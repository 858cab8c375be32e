package source

import (
	"strings"

	"smithy/prim"
)

// meaning is what the name of a value stands for.
type meaning struct {
	value prim.Value
	sort  int
	tag   int        // of a constructor: its place among those of its datatype
	cell  *prim.Cell // of an exception
}

// Sorts of values' names.
const (
	sortPlain = iota
	sortConstructor
	sortException
)

// scope is a name that was declared, of a value or of a structure, behind those that were declared ahead of it.
type scope struct {
	name string
	meaning
	structure *structure // nil: it is a value's name
	ahead     *scope
}

// with is a scope in which a value's name is declared, too.
func (s *scope) with(name string, m meaning) *scope {
	return &scope{name: name, meaning: m, ahead: s}
}

// withValue is a scope in which a name is declared that just stands for a value.
func (s *scope) withValue(name string, v prim.Value) *scope { return s.with(name, meaning{value: v}) }

// structure is names of values and of structures.
type structure struct {
	values map[string]meaning
	parts  map[string]*structure
}

func newStructure() *structure {
	return &structure{values: map[string]meaning{}, parts: map[string]*structure{}}
}

// gathered is the structure of what was declared behind a scope. Of several of one name the last one counts.
func gathered(last, behind *scope) *structure {
	out := newStructure()
	for s := last; s != behind; s = s.ahead {
		if s.structure != nil {
			putIfNew(out.parts, s.name, s.structure)
		} else {
			putIfNew(out.values, s.name, s.meaning)
		}
	}
	return out
}

func putIfNew[T any](known map[string]T, name string, x T) {
	if _, is := known[name]; !is {
		known[name] = x
	}
}

// value is what the name of a value, which may be long, stands for.
func (r *runner) value(name string, at *scope) meaning {
	if dot := strings.LastIndexByte(name, '.'); dot >= 0 {
		return found(r.structure(name[:dot], at).values, name[dot+1:])
	}
	for s := at; s != nil; s = s.ahead {
		if s.name == name && s.structure == nil {
			return s.meaning
		}
	}
	return found(r.basis.values, name)
}

// structure is what the name of a structure, which may be long, stands for.
func (r *runner) structure(name string, at *scope) *structure {
	first, rest, isLong := strings.Cut(name, ".")
	s := r.shortStructure(first, at)
	for isLong {
		first, rest, isLong = strings.Cut(rest, ".")
		s = found(s.parts, first)
	}
	return s
}

func (r *runner) shortStructure(name string, at *scope) *structure {
	for s := at; s != nil; s = s.ahead {
		if s.name == name && s.structure != nil {
			return s.structure
		}
	}
	return found(r.basis.parts, name)
}

// found is what a name stands for. A run in which it stands for nothing is stuck.
func found[T any](known map[string]T, name string) T {
	x, is := known[name]
	prim.Must(is)
	return x
}
