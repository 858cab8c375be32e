package source

import (
	"smithy/api"
	"smithy/big"
	"smithy/front"
	"smithy/prim"
)

// fit tells whether a value fits a pattern, and what is known then.
func (r *runner) fit(p *api.Pat, v prim.Value, at *scope) (inner *scope, fits bool) {
	switch p.Kind {
	case api.PatWild:
		return at, true
	case api.PatVar:
		return at.withValue(p.Name, v), true
	case api.PatInt:
		return at, big.Cmp(prim.As[api.Int](v), p.Int) == 0
	case api.PatChar:
		return at, prim.As[prim.Small](v) == prim.Small(p.N)
	case api.PatText:
		return at, prim.As[prim.Text](v) == prim.Text(p.Text)
	case api.PatCon:
		return r.fitCon(p, v, at)
	case api.PatRecord:
		return r.fitRecord(p, v, at)
	case api.PatList:
		return r.fitList(p.Kids, v, at)
	case api.PatAs:
		return r.fitAll(p.Kids, []prim.Value{v}, at.withValue(p.Name, v))
	}
	prim.Must(p.Kind == api.PatTyped)
	return r.fitAll(p.Kids, []prim.Value{v}, at)
}

// fitAll tells whether values fit as many patterns, from the left.
func (r *runner) fitAll(l []api.Pat, values []prim.Value, at *scope) (inner *scope, fits bool) {
	prim.Must(len(l) == len(values))
	for i := range l {
		if at, fits = r.fit(&l[i], values[i], at); !fits {
			return nil, false
		}
	}
	return at, true
}

// fitCon tells whether a value is one of a constructor, of an exception, with an argument that fits, if it has one.
func (r *runner) fitCon(p *api.Pat, v prim.Value, at *scope) (inner *scope, fits bool) {
	m := r.value(p.Name, at)
	b, isBlock := v.(*prim.Block)
	if m.sort == sortException {
		prim.Must(isBlock && len(b.Fields) == 2 && len(p.Kids) <= 1)
		if prim.As[*prim.Cell](b.Fields[0]) != m.cell {
			return nil, false
		}
		return r.fitAll(p.Kids, b.Fields[1:1+len(p.Kids)], at)
	}
	prim.Must(m.sort == sortConstructor)
	switch {
	case !isBlock:
		return at, len(p.Kids) == 0 && prim.As[prim.Small](v) == prim.Small(m.tag)
	case len(p.Kids) == 0 || b.Tag != m.tag:
		return nil, false
	}
	return r.fitAll(p.Kids, b.Fields, at)
}

func (r *runner) fitRecord(p *api.Pat, v prim.Value, at *scope) (inner *scope, fits bool) {
	prim.Must(len(p.Labels) == len(p.Kids))
	all := fields(v, len(p.Kids))
	for i, place := range front.Places(p.Labels) {
		if at, fits = r.fit(&p.Kids[i], all[place], at); !fits {
			return nil, false
		}
	}
	return at, true
}

func (r *runner) fitList(l []api.Pat, v prim.Value, at *scope) (inner *scope, fits bool) {
	for i := range l {
		first, rest, is := prim.Uncons(v)
		if !is {
			return nil, false
		}
		if at, fits = r.fit(&l[i], first, at); !fits {
			return nil, false
		}
		v = rest
	}
	_, _, longer := prim.Uncons(v)
	return at, !longer
}
