package elab

import (
	"strings"

	"smithy/api"
	"smithy/front"
)

// Sorts of values' names; none: it stands for nothing.
const (
	sortNone = iota
	sortVariable
	sortConstructor
	sortException
	sortBuiltIn
	sortPrimitive
)

// meaning is what the name of a value stands for.
type meaning struct {
	sort      int
	name      string      // of a variable: its name in Core; of an exception: that which holds its cell
	number    int         // of a constructor: its tag; of a built-in exception: its number
	span      int         // of a constructor: how many its datatype has
	hasArg    bool        // of a constructor, an exception
	primitive front.Value // of a primitive
}

// isFunction tells whether it is a constructor, an exception or a primitive that is of something.
func (v meaning) isFunction() bool { return v.sort == sortPrimitive || v.hasArg }

// scope is what is declared in one let, one struct, one rule, and what is known about it. A structure is one, by itself.
type scope struct {
	values map[string]meaning
	parts  map[string]*scope
	about  *scope
}

// within is a new scope in another one.
func (s *scope) within() *scope { return &scope{about: s} }

func (s *scope) declare(name string, v meaning) {
	if s.values == nil {
		s.values = map[string]meaning{}
	}
	s.values[name] = v
}

func (s *scope) declareVariable(name, inCore string) {
	s.declare(name, meaning{sort: sortVariable, name: inCore})
}

func (s *scope) declareStructure(name string, part *scope) {
	if s.parts == nil {
		s.parts = map[string]*scope{}
	}
	s.parts[name] = part
}

// declareConstructors declares those of a datatype.
func (s *scope) declareConstructors(l []api.Con) {
	for place, k := range l {
		s.declare(k.Name, meaning{sort: sortConstructor, number: place, span: len(l), hasArg: len(k.Types) > 0})
	}
}

// value is what the name of a value, which may be long, stands for.
func (s *scope) value(name string) meaning {
	if dot := strings.LastIndexByte(name, '.'); dot >= 0 {
		if in := s.structure(name[:dot]); in != nil {
			return in.values[name[dot+1:]]
		}
		return meaning{}
	}
	for ; s != nil; s = s.about {
		if v, is := s.values[name]; is {
			return v
		}
	}
	return meaning{}
}

// structure is what the name of a structure, which may be long, stands for; nil, if that is nothing.
func (s *scope) structure(name string) *scope {
	first, rest, isLong := strings.Cut(name, ".")
	for s != nil && s.parts[first] == nil {
		s = s.about
	}
	if s != nil {
		s = s.parts[first]
	}
	for s != nil && isLong {
		first, rest, isLong = strings.Cut(rest, ".")
		s = s.parts[first]
	}
	return s
}

// exceptions are the built-in ones, in the order of their numbers.
const exceptions = "Match Bind Div Subscript Size Io Domain Chr"

// atFirst is what there is at first.
func atFirst() *scope {
	s := &scope{}
	some := []api.Type{{}}
	s.declareConstructors([]api.Con{{Name: "false"}, {Name: "true"}})
	s.declareConstructors([]api.Con{{Name: "nil"}, {Name: "::", Types: some}})
	for number, name := range strings.Fields(exceptions) {
		s.declare(name, meaning{sort: sortBuiltIn, number: number})
	}
	for _, v := range front.Values() {
		in := s
		if v.Structure != "" {
			in = s.part(v.Structure)
		}
		in.declare(v.Name, meaning{sort: sortPrimitive, primitive: v})
	}
	return s
}

// part is a structure in a scope: a new one, if there is none of that name yet.
func (s *scope) part(name string) *scope {
	if s.parts[name] == nil {
		s.declareStructure(name, &scope{})
	}
	return s.parts[name]
}
