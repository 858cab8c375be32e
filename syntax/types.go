package syntax

import (
	"strconv"

	"smithy/api"
	"smithy/lex"
)

func (r *reader) ty() *api.Type {
	t := r.product()
	if !r.took("->") {
		return t
	}
	return &api.Type{Kind: api.TypeArrow, Args: []api.Type{*t, *r.ty()}}
}

func (r *reader) product() *api.Type {
	args := []api.Type{*r.applied()}
	for r.now().Kind == lex.Symbol && r.now().Text == "*" {
		r.next++
		args = append(args, *r.applied())
	}
	if len(args) == 1 {
		return &args[0]
	}
	return &api.Type{Kind: api.TypeRecord, Labels: numbers(len(args)), Args: args}
}

// applied reads a type and the constructors behind it. Several types in parentheses are no type without one.
func (r *reader) applied() *api.Type {
	args := r.typeAtoms()
	for len(args) != 1 || r.isLong() {
		args = []api.Type{{Kind: api.TypeCon, Name: r.long(), Args: args}}
	}
	return &args[0]
}

func (r *reader) typeAtoms() []api.Type {
	switch {
	case r.took("("):
		args := row(r, ",", r.ty)
		r.need(")")
		return args
	case r.took("{"):
		labels, args := fields(r, ":", r.ty)
		return []api.Type{{Kind: api.TypeRecord, Labels: labels, Args: args}}
	case r.isLong():
		return []api.Type{{Kind: api.TypeCon, Name: r.long()}}
	}
	return []api.Type{{Kind: api.TypeVar, Name: r.typeVar()}}
}

// numbers are the labels 1, 2 .. n.
func numbers(n int) []string {
	var labels []string
	for i := range n {
		labels = append(labels, strconv.Itoa(i+1))
	}
	return labels
}
