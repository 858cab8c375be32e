package types

import "smithy/api"

// signature is specifications whose types are known, but for those that it specifies itself: for these stand
// constructors of its own.
type signature struct {
	specs []spec
	types int // how many it specifies
}

type spec struct {
	kind  int
	name  string
	value value   // of a value, an exception
	con   *tycon  // of a type, a datatype: what stands for it
	is    *ty     // of a type: what it is, or nil
	cons  []value // of a datatype
}

// signature is that of specifications, each of which may speak of the types of those ahead.
func (c *checker) signature(l []api.Spec) *signature {
	c.types = enter(c.types)
	s := &signature{}
	values, types := map[string]struct{}{}, map[string]struct{}{}
	for i := range l {
		sp := c.spec(&l[i], s)
		if sp.con != nil {
			addName(types, sp.name)
		} else {
			addName(values, sp.name)
		}
		for _, k := range l[i].Data.Cons {
			addName(values, k.Name)
		}
		s.specs = append(s.specs, sp)
	}
	c.types, _ = leave(c.types)
	return s
}

func (c *checker) spec(l *api.Spec, s *signature) (sp spec) {
	sp = spec{kind: l.Kind, name: l.Name}
	switch l.Kind {
	case api.SpecVal:
		sp.value = c.specValue(l.Types)
	case api.SpecExn:
		sp.value = c.exception(l.Types)
	case api.SpecType:
		vars, strict := parameters(l.Data.Vars)
		sp.name, sp.is = l.Data.Name, c.writtenIf(l.Types, vars)
		sp.con = s.newCon(strict)
		declare(c.types, sp.name, typeName{con: sp.con})
	default:
		must(l.Kind == api.SpecData)
		_, strict := parameters(l.Data.Vars)
		sp.name, sp.con = l.Data.Name, s.newCon(strict)
		declare(c.types, sp.name, typeName{con: sp.con})
		sp.cons = c.constructors(&l.Data, sp.con)
	}
	c.pay()
	return sp
}

// newCon stands for a type that is specified. That it has equality is taken for granted, as it may turn out to have it.
func (s *signature) newCon(strict []bool) *tycon {
	s.types++
	return &tycon{eq: true, needs: make([]bool, len(strict)), strict: strict, spec: s.types}
}

// specValue is a value as it is specified: each of its variables stands for any type.
func (c *checker) specValue(l []api.Type) (v value) {
	must(len(l) == 1)
	vars := &typeVars{known: map[string]*ty{}}
	vars.other = func(name string) *ty {
		v.generics = append(v.generics, hasEquality(name))
		return &ty{kind: kindGeneric, place: len(v.generics) - 1, eq: hasEquality(name)}
	}
	v.ty = c.written(&l[0], vars)
	return v
}

// signatureOf is the signature that a structure goes through.
func (c *checker) signatureOf(s *api.Sig) *signature {
	if s.Name == "" {
		return c.signature(s.Specs)
	}
	found, is := lookUp(c.signatures, s.Name)
	must(is)
	return found
}
