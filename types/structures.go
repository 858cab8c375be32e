package types

import (
	"slices"

	"smithy/api"
)

// structure declares one.
func (c *checker) structure(d *api.Dec) {
	must(c.level == 0 && len(d.Sigs) <= 1 && len(d.Names) <= 1)
	path := c.path
	c.path += d.Name + "."
	var s *structure
	if len(d.Names) == 1 {
		s = c.structureNamed(d.Names[0])
	} else {
		s = c.newStructure(d.Decs)
	}
	for i := range d.Sigs {
		s = c.through(s, c.signatureOf(&d.Sigs[i]), d.Opaque)
	}
	c.path = path
	declare(c.structures, d.Name, s)
	c.here.parts = append(c.here.parts, part{d.Name, s})
}

// newStructure is what declarations declare.
func (c *checker) newStructure(l []api.Dec) *structure {
	about := c.here
	s := &structure{}
	c.here = s
	c.enterStruct()
	c.decs(l)
	c.leaveStruct(s)
	c.here = about
	s.count()
	return s
}

// see lets a value be seen, and told.
func (s *structure) see(name string, v value) {
	s.values[name] = v
	s.own = append(s.own, member{name, v.ty})
}

// count finds out how many values are to be told of a structure. More than can be told are as many as one more.
func (s *structure) count() {
	s.many = len(s.own)
	for _, p := range s.parts {
		s.many = min(s.many+p.many, mostTold+1)
	}
}

// passage is a structure on its way through a signature.
type passage struct {
	*checker
	from, seen      *structure
	inside, outside []*tycon // what the specified types are in the structure, and as it is seen
	opaque          bool
}

// through is what is seen of a structure through a signature.
func (c *checker) through(from *structure, s *signature, opaque bool) *structure {
	seen := &structure{values: map[string]value{}, types: map[string]typeName{}}
	p := &passage{checker: c, from: from, seen: seen, opaque: opaque}
	for i := range s.specs {
		switch sp := &s.specs[i]; sp.kind {
		case api.SpecVal:
			p.value(sp)
		case api.SpecExn:
			p.exception(sp)
		case api.SpecType:
			p.abstract(sp)
		default:
			p.datatype(sp)
		}
	}
	seen.count()
	return seen
}

// as is a type that is specified, with cons for what the signature specifies.
func (p *passage) as(t *ty, cons []*tycon) *ty {
	if t == nil {
		return nil
	}
	return p.putBoth(t, nil, cons)
}

// asSeen is a value that is specified as it is seen.
func (p *passage) asSeen(v value) value {
	v.ty, v.arg = p.as(v.ty, p.outside), p.as(v.arg, p.outside)
	return v
}

// value is at least as general as it is specified.
func (p *passage) value(sp *spec) {
	v, is := p.from.values[sp.name]
	must(is)
	p.level++
	wanted := p.put(p.as(sp.value.ty, p.inside), p.anyTypes(sp.value.generics))
	p.unifyGreat(p.put(p.whole(v), p.instances(v.generics)), wanted)
	p.level--
	p.seen.see(sp.name, p.asSeen(sp.value))
}

func (p *passage) exception(sp *spec) {
	v := p.from.values[sp.name]
	must(v.sort == sortException)
	p.sameArg(v, sp.value)
	p.seen.values[sp.name] = p.asSeen(sp.value)
}

// sameArg sees to it that a constructor, an exception is of what is specified.
func (p *passage) sameArg(v, specified value) {
	must((v.arg == nil) == (specified.arg == nil))
	if v.arg != nil {
		types := p.anyTypes(v.generics)
		p.unifyGreat(p.put(v.arg, types), p.put(p.as(specified.arg, p.inside), types))
	}
}

// abstract is a type that is specified, with what it is or without.
func (p *passage) abstract(sp *spec) {
	t, is := p.from.types[sp.name]
	must(is && t.con.arity() == sp.con.arity())
	seen := t.con
	switch {
	case sp.is != nil:
		types := p.anyTypes(sp.con.strict)
		p.unifyGreat(p.apply(t.con, types), p.put(p.as(sp.is, p.inside), types))
		seen = p.short(p.as(sp.is, p.outside), sp.con.strict)
	case p.opaque:
		seen = p.newCon(sp.name, sp.con.strict)
		seen.eq = false
	}
	p.see(sp, t.con, typeName{con: seen})
}

func (p *passage) datatype(sp *spec) {
	t := p.from.types[sp.name]
	must(t.isData && t.con.arity() == sp.con.arity() && slices.Equal(t.con.cons, sp.con.cons))
	p.see(sp, t.con, t)
	for i, specified := range sp.cons {
		name := sp.con.cons[i]
		v := p.from.values[name]
		must(v.sort == sortConstructor && v.con == t.con)
		p.sameArg(v, specified)
		seen := p.asSeen(specified)
		seen.con = t.con
		p.seen.values[name] = seen
	}
}

// see lets a type be seen.
func (p *passage) see(sp *spec, inside *tycon, seen typeName) {
	p.inside = append(p.inside, inside)
	p.outside = append(p.outside, seen.con)
	p.seen.types[sp.name] = seen
}
