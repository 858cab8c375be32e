package types

import (
	"slices"
	"strings"

	"smithy/api"
	"smithy/front"
)

// typeVars says what type variables stand for that are written somewhere.
type typeVars struct {
	known map[string]*ty
	other func(name string) *ty // what one stands for that is not known yet; nil: there may be none
}

func (v *typeVars) of(name string) *ty {
	t, is := v.known[name]
	if !is {
		must(v.other != nil)
		t = v.other(name)
		v.known[name] = t
	}
	return t
}

// hasEquality tells whether a type variable of that name stands for types with equality alone.
func hasEquality(name string) bool { return strings.HasPrefix(name, "''") }

// noVars is where no type variables may be written.
func noVars() *typeVars { return &typeVars{} }

// parameters are those of a type, which are unlike.
func parameters(names []string) (vars *typeVars, strict []bool) {
	vars = &typeVars{known: map[string]*ty{}}
	for i, name := range names {
		_, twice := vars.known[name]
		must(!twice)
		strict = append(strict, hasEquality(name))
		vars.known[name] = &ty{kind: kindGeneric, place: i, eq: strict[i]}
	}
	return vars, strict
}

// written is a type as a text has it.
func (c *checker) written(t *api.Type, vars *typeVars) *ty {
	if t.Kind == api.TypeVar {
		return vars.of(t.Name)
	}
	args := make([]*ty, len(t.Args))
	for i := range t.Args {
		args[i] = c.written(&t.Args[i], vars)
	}
	switch t.Kind {
	case api.TypeCon:
		return c.writtenCon(t.Name, args)
	case api.TypeArrow:
		must(len(args) == 2)
		return c.function(args[0], args[1])
	}
	must(t.Kind == api.TypeRecord)
	return recordOf(t.Labels, args)
}

func (c *checker) writtenCon(name string, args []*ty) *ty {
	con := c.typeNamed(name).con
	must(len(args) == con.arity())
	for i, strict := range con.strict {
		if strict {
			c.owed = append(c.owed, args[i])
		}
	}
	return c.apply(con, args)
}

// writtenIf is the one type of a list, or nil.
func (c *checker) writtenIf(l []api.Type, vars *typeVars) *ty {
	must(len(l) <= 1)
	if len(l) == 0 {
		return nil
	}
	return c.written(&l[0], vars)
}

// annotation is the one type of a list, as it stands in an expression or a pattern.
func (c *checker) annotation(l []api.Type) *ty {
	must(len(l) == 1)
	t := c.written(&l[0], c.vars)
	c.pay()
	return t
}

// field is a part of a record.
type field struct {
	label string
	ty    *ty
}

// recordOf is the type of a record whose labels stand as they are written.
func recordOf(labels []string, args []*ty) *ty {
	must(len(labels) == len(args) && len(labels) <= api.MaxArity)
	fields := make([]field, len(args))
	for i := range args {
		fields[i] = field{labels[i], args[i]}
	}
	slices.SortStableFunc(fields, func(a, b field) int { return front.CompareLabels(a.label, b.label) })
	t := &ty{kind: kindRecord}
	for i, f := range fields {
		must(i == 0 || f.label != fields[i-1].label)
		t.labels = append(t.labels, f.label)
		t.args = append(t.args, f.ty)
	}
	return t
}
