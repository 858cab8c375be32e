package types

import (
	"slices"
	"strconv"

	"smithy/api"
)

// mostTold is how much can be told at most, parts of types and bytes of names: more would be more than there is room for.
const mostTold = 1 << 25

// teller tells values.
type teller struct {
	*checker
	room   int
	values []api.Named
	names  map[int]int // of the generics of a type that is told: which of them each is
}

// told are the values of all that was declared.
func (c *checker) told() []api.Named {
	t := &teller{checker: c, room: mostTold}
	t.structure("", c.here)
	return t.values
}

// spend takes room for something that is told.
func (t *teller) spend(room int) {
	t.room -= room
	must(t.room >= 0)
}

func (t *teller) structure(ahead string, s *structure) {
	for _, m := range s.own {
		parts, _ := t.size(m.ty, t.room)
		t.spend(len(ahead) + len(m.name) + parts)
		t.names = map[int]int{}
		t.values = append(t.values, api.Named{Name: ahead + m.name, Type: t.ty(m.ty)})
	}
	for _, p := range s.parts {
		if p.many > 0 { // a structure of nothing may have more parts than can be gone through
			t.spend(len(ahead) + len(p.name))
			t.structure(ahead+p.name+".", p.structure)
		}
	}
}

func (t *teller) ty(x *ty) api.Type {
	x = t.head(x)
	switch x.kind {
	case kindVariable:
		return api.Type{Kind: api.TypeRecord}
	case kindGeneric:
		return api.Type{Kind: api.TypeVar, Name: t.name(x)}
	}
	var args []api.Type
	for _, a := range x.args {
		args = append(args, t.ty(a))
	}
	switch {
	case x.kind == kindRecord:
		return api.Type{Kind: api.TypeRecord, Labels: slices.Clone(x.labels), Args: args}
	case x.con == t.arrow:
		return api.Type{Kind: api.TypeArrow, Args: args}
	}
	return api.Type{Kind: api.TypeCon, Name: x.con.name, Args: args}
}

// name is a generic's: a letter, and behind the last one numbers.
func (t *teller) name(x *ty) string {
	n, is := t.names[x.place]
	if !is {
		n = len(t.names)
		t.names[x.place] = n
	}
	const letters = 'z' - 'a' + 1
	name := "'" + string(rune('a'+n%letters))
	if n >= letters {
		name += strconv.Itoa(n / letters)
	}
	if x.eq {
		name = "'" + name
	}
	return name
}

// numbered is the n-th of one name.
func numbered(name string, n int) string {
	if n == 1 {
		return name
	}
	return name + "#" + strconv.Itoa(n)
}
