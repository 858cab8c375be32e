package types

import (
	"smithy/api"
	"smithy/big"
)

// A program has no more things than its text has bytes, but for a few with each operator, and they are nested no deeper
// than MaxDepth. Trees that hold themselves come to an end here.
const (
	mostThings = 8 * api.MaxSource
	mostNested = 4 * api.MaxDepth
)

// copier copies trees; left is how many things they may still have.
type copier struct{ left int }

// copied are the declarations anew: they are written into, and answered.
func copied(l []api.Dec) []api.Dec {
	c := &copier{mostThings}
	return row(c, l, 0, c.dec)
}

// row copies things that are so deep in others.
func row[T any](c *copier, l []T, deep int, one func(x *T, deep int) T) []T {
	if len(l) == 0 {
		return nil
	}
	must(len(l) <= c.left && deep < mostNested)
	c.left -= len(l)
	out := make([]T, len(l))
	for i := range l {
		out[i] = one(&l[i], deep+1)
	}
	return out
}

func (c *copier) names(l []string) []string {
	return row(c, l, 0, func(x *string, _ int) string { return *x })
}

func (c *copier) dec(d *api.Dec, deep int) api.Dec {
	return api.Dec{
		Kind: d.Kind, Name: d.Name, Names: c.names(d.Names), N: d.N, Right: d.Right, Opaque: d.Opaque,
		Pats: row(c, d.Pats, deep, c.pat), Exps: row(c, d.Exps, deep, c.exp), Funs: row(c, d.Funs, deep, c.fun),
		Datas: row(c, d.Datas, deep, c.data), Types: row(c, d.Types, deep, c.ty), Decs: row(c, d.Decs, deep, c.dec),
		Sigs: row(c, d.Sigs, deep, c.sig), Specs: row(c, d.Specs, deep, c.spec),
	}
}

func (c *copier) fun(f *api.Fun, deep int) api.Fun {
	return api.Fun{Name: f.Name, Many: f.Many, Clauses: row(c, f.Clauses, deep, c.clause)}
}

func (c *copier) clause(x *api.Clause, deep int) api.Clause {
	return api.Clause{Pats: row(c, x.Pats, deep, c.pat), E: c.exp(&x.E, deep)}
}

func (c *copier) data(d *api.Data, deep int) api.Data {
	return api.Data{Vars: c.names(d.Vars), Name: d.Name, Cons: row(c, d.Cons, deep, c.con)}
}

func (c *copier) con(k *api.Con, deep int) api.Con {
	return api.Con{Name: k.Name, Types: row(c, k.Types, deep, c.ty)}
}

func (c *copier) sig(s *api.Sig, deep int) api.Sig {
	return api.Sig{Name: s.Name, Specs: row(c, s.Specs, deep, c.spec)}
}

func (c *copier) spec(s *api.Spec, deep int) api.Spec {
	return api.Spec{Kind: s.Kind, Name: s.Name, Data: c.data(&s.Data, deep), Types: row(c, s.Types, deep, c.ty)}
}

func (c *copier) exp(e *api.Exp, deep int) api.Exp {
	return api.Exp{
		Kind: e.Kind, Name: e.Name, Int: big.Norm(e.Int), N: e.N, Bits: e.Bits, Text: e.Text, Labels: c.names(e.Labels),
		Kids: row(c, e.Kids, deep, c.exp), Rules: row(c, e.Rules, deep, c.rule), Decs: row(c, e.Decs, deep, c.dec),
		Types: row(c, e.Types, deep, c.ty),
	}
}

func (c *copier) rule(r *api.Rule, deep int) api.Rule {
	return api.Rule{P: c.pat(&r.P, deep), E: c.exp(&r.E, deep)}
}

func (c *copier) pat(p *api.Pat, deep int) api.Pat {
	return api.Pat{
		Kind: p.Kind, Name: p.Name, Int: big.Norm(p.Int), N: p.N, Text: p.Text, Labels: c.names(p.Labels),
		Kids: row(c, p.Kids, deep, c.pat), Types: row(c, p.Types, deep, c.ty),
	}
}

func (c *copier) ty(t *api.Type, deep int) api.Type {
	return api.Type{Kind: t.Kind, Name: t.Name, Args: row(c, t.Args, deep, c.ty), Labels: c.names(t.Labels)}
}
