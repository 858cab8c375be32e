package types

import "smithy/api"

// bound are the variables of a pattern, in the order in which they stand.
type bound struct {
	members []member
	names   map[string]struct{}
}

func newBound() *bound { return &bound{names: map[string]struct{}{}} }

func (b *bound) add(name string, t *ty) {
	addName(b.names, name)
	b.members = append(b.members, member{name, t})
}

// addName adds a name to those that must be unlike.
func addName(names map[string]struct{}, name string) {
	_, twice := names[name]
	must(!twice)
	names[name] = struct{}{}
}

// wholePat is the type of a pattern, whose variables are declared.
func (c *checker) wholePat(p *api.Pat) *ty {
	b := newBound()
	t := c.pat(p, b)
	c.declareAll(b.members, nil)
	return t
}

func (c *checker) declareAll(l []member, generics []bool) {
	for _, m := range l {
		declare(c.values, m.name, value{ty: m.ty, generics: generics})
	}
}

// pat is the type of a pattern; its variables are added to b.
func (c *checker) pat(p *api.Pat, b *bound) *ty {
	t := c.patType(p, b)
	c.met = append(c.met, t)
	return t
}

func (c *checker) patType(p *api.Pat, b *bound) *ty {
	switch p.Kind {
	case api.PatWild:
		return c.variable()
	case api.PatVar:
		return c.patName(p, b)
	case api.PatInt:
		return c.integer
	case api.PatChar:
		return c.char
	case api.PatText:
		return c.text
	case api.PatCon:
		return c.patCon(p, b)
	case api.PatRecord:
		return recordOf(p.Labels, c.pats(p.Kids, b))
	case api.PatAs:
		must(len(p.Kids) == 1 && !c.isPatternName(p.Name))
		t := c.variable()
		b.add(p.Name, t)
		c.unify(t, c.pat(&p.Kids[0], b))
		return t
	case api.PatTyped:
		must(len(p.Kids) == 1)
		t := c.pat(&p.Kids[0], b)
		c.unify(t, c.annotation(p.Types))
		return t
	}
	must(p.Kind == api.PatList)
	element := c.variable()
	for i := range p.Kids {
		c.unify(c.pat(&p.Kids[i], b), element)
	}
	return c.listOf(element)
}

func (c *checker) pats(l []api.Pat, b *bound) []*ty {
	types := make([]*ty, len(l))
	for i := range l {
		types[i] = c.pat(&l[i], b)
	}
	return types
}

// isPatternName tells whether a name is that of a constructor or an exception.
func (c *checker) isPatternName(name string) bool {
	v, _ := c.valueNamed(name)
	return v.isPattern()
}

// patName is a name alone: a constructor, an exception, or a new variable.
func (c *checker) patName(p *api.Pat, b *bound) *ty {
	if c.isPatternName(p.Name) {
		p.Kind = api.PatCon
		return c.patCon(p, b)
	}
	t := c.variable()
	b.add(p.Name, t)
	return t
}

func (c *checker) patCon(p *api.Pat, b *bound) *ty {
	v, _ := c.valueNamed(p.Name)
	must(v.isPattern() && len(p.Kids) <= 1 && (len(p.Kids) == 1) == (v.arg != nil))
	types := c.instances(v.generics)
	if v.arg != nil {
		c.unify(c.pat(&p.Kids[0], b), c.put(v.arg, types))
	}
	return c.put(v.ty, types)
}
