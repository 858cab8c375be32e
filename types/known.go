package types

import (
	"slices"
	"strings"
)

// known is what names stand for: scopes, the innermost one last.
type known struct {
	values     []map[string]value
	types      []map[string]typeName
	structures []map[string]*structure
	signatures []map[string]*signature
}

// Sorts of values.
const (
	sortPlain = iota
	sortConstructor
	sortException
	sortOperator // told apart by its type
)

// value is what the name of a value stands for.
type value struct {
	sort     int
	ty       *ty    // of a constructor, an exception with an argument: of what it makes
	arg      *ty    // of a constructor, an exception: what it is of, or nil
	generics []bool // of both types: those that there are, by whether they have equality
	con      *tycon // of a constructor
}

// isPattern tells whether the name is no variable in a pattern.
func (v value) isPattern() bool { return v.sort == sortConstructor || v.sort == sortException }

// typeName is what the name of a type stands for.
type typeName struct {
	con    *tycon
	isData bool // its constructors are known by their names
}

// structure is what is seen of one, and which values are told of it.
type structure struct {
	values     map[string]value
	types      map[string]typeName
	structures map[string]*structure
	own        []member
	parts      []part
	many       int // values of it and its parts, as far as that matters
}

type member struct {
	name string
	ty   *ty
}

type part struct {
	name string
	*structure
}

// lookUp is what a name stands for: the innermost one is the last.
func lookUp[T any](scopes []map[string]T, name string) (found T, is bool) {
	for _, scope := range slices.Backward(scopes) {
		if found, is = scope[name]; is {
			break
		}
	}
	return found, is
}

// declare lets a name stand for something in the innermost scope.
func declare[T any](scopes []map[string]T, name string, x T) { scopes[len(scopes)-1][name] = x }

// enter begins a scope.
func enter[T any](scopes []map[string]T) []map[string]T { return append(scopes, map[string]T{}) }

// leave ends the innermost scope, and tells what was declared there.
func leave[T any](scopes []map[string]T) (rest []map[string]T, last map[string]T) {
	return scopes[:len(scopes)-1], scopes[len(scopes)-1]
}

// enterRule begins a scope of variables.
func (k *known) enterRule() { k.values = enter(k.values) }

func (k *known) leaveRule() { k.values, _ = leave(k.values) }

func (k *known) enterLet() {
	k.values = enter(k.values)
	k.types = enter(k.types)
}

func (k *known) leaveLet() {
	k.values, _ = leave(k.values)
	k.types, _ = leave(k.types)
}

func (k *known) enterStruct() {
	k.enterLet()
	k.structures = enter(k.structures)
	k.signatures = enter(k.signatures)
}

// leaveStruct ends the scope of a structure, and lets s be what was declared there.
func (k *known) leaveStruct(s *structure) {
	k.values, s.values = leave(k.values)
	k.types, s.types = leave(k.types)
	k.structures, s.structures = leave(k.structures)
	k.signatures, _ = leave(k.signatures)
}

// cut is a name without its structures, and their names.
func cut(name string) (ahead, short string) {
	dot := strings.LastIndex(name, ".")
	return name[:max(dot, 0)], name[dot+1:]
}

// structureNamed is the structure of that name, which may be long.
func (k *known) structureNamed(name string) *structure {
	names := strings.Split(name, ".")
	s, is := lookUp(k.structures, names[0])
	for _, inner := range names[1:] {
		must(is)
		s, is = s.structures[inner]
	}
	must(is)
	return s
}

// valueNamed is the value of that name, if there is one.
func (k *known) valueNamed(name string) (v value, is bool) {
	ahead, short := cut(name)
	if ahead == "" {
		return lookUp(k.values, name)
	}
	v, is = k.structureNamed(ahead).values[short]
	return v, is
}

// typeNamed is the type of that name.
func (k *known) typeNamed(name string) (t typeName) {
	ahead, short := cut(name)
	is := false
	if ahead == "" {
		t, is = lookUp(k.types, name)
	} else {
		t, is = k.structureNamed(ahead).types[short]
	}
	must(is)
	return t
}
