package syntax

import (
	"smithy/api"
	"smithy/lex"
)

// decs reads declarations; others are words that may begin one there, beside those that may everywhere.
func (r *reader) decs(others ...string) []api.Dec {
	var list []api.Dec
	for {
		switch {
		case r.took(";"):
		case r.is("val", "fun", "datatype", "type", "exception", "infix", "infixr", "nonfix"), r.is(others...):
			d := r.dec()
			r.declareBy(d)
			list = append(list, *d)
		default:
			return list
		}
	}
}

func (r *reader) dec() *api.Dec {
	switch r.take().Text {
	case "val":
		p := r.pat()
		r.need("=")
		return &api.Dec{Kind: api.DecVal, Pats: []api.Pat{*p}, Exps: []api.Exp{*r.exp()}}
	case "fun":
		return &api.Dec{Kind: api.DecFun, Funs: row(r, "and", r.fun)}
	case "datatype":
		return &api.Dec{Kind: api.DecData, Datas: row(r, "and", r.data)}
	case "type":
		d := api.Data{Vars: r.typeVars(), Name: r.name()}
		r.need("=")
		return &api.Dec{Kind: api.DecType, Datas: []api.Data{d}, Types: []api.Type{*r.ty()}}
	case "exception":
		return &api.Dec{Kind: api.DecExn, Name: r.name(), Types: r.tyBehind("of")}
	case "infix":
		return &api.Dec{Kind: api.DecInfix, N: r.level(), Names: r.valueNames()}
	case "infixr":
		return &api.Dec{Kind: api.DecInfix, N: r.level(), Names: r.valueNames(), Right: true}
	case "nonfix":
		return &api.Dec{Kind: api.DecNonfix, Names: r.valueNames()}
	case "structure":
		return r.structure()
	}
	return r.signature()
}

// tyBehind reads the type behind a word, if that word comes.
func (r *reader) tyBehind(key string) []api.Type {
	if !r.took(key) {
		return nil
	}
	return []api.Type{*r.ty()}
}

// level reads an operator's level, if there is one.
func (r *reader) level() int {
	w := r.now()
	if w.Kind != lex.Int {
		return 0
	}
	return int(r.textIf(len(w.Text) == 1)[0] - '0')
}

func (r *reader) valueNames() []string {
	names := []string{r.valueName()}
	for r.isValueName() {
		names = append(names, r.valueName())
	}
	return names
}

func (r *reader) fun() *api.Fun {
	f := &api.Fun{}
	f.Clauses = row(r, "|", func() *api.Clause { return r.clause(f) })
	return f
}

// clause reads one of f's clauses: the first one says f's name and how many patterns each has.
func (r *reader) clause(f *api.Fun) *api.Clause {
	r.took("op")
	first := f.Many == 0
	f.Name = r.textIf(r.isValueName() && (first || r.now().Text == f.Name))
	pats := []api.Pat{*r.atpat()}
	for r.startsAtpat() {
		pats = append(pats, *r.atpat())
	}
	if !first && len(pats) != f.Many {
		panic(r.refusal())
	}
	f.Many = len(pats)
	types := r.tyBehind(":")
	r.need("=")
	e := r.exp()
	if types != nil {
		e = &api.Exp{Kind: api.ExpTyped, Kids: []api.Exp{*e}, Types: types}
	}
	return &api.Clause{Pats: pats, E: *e}
}

func (r *reader) data() *api.Data {
	d := &api.Data{Vars: r.typeVars(), Name: r.name()}
	r.need("=")
	d.Cons = row(r, "|", r.con)
	return d
}

func (r *reader) con() *api.Con {
	r.took("op")
	return &api.Con{Name: r.valueName(), Types: r.tyBehind("of")}
}

// typeVars reads the parameters of a type, if it has some.
func (r *reader) typeVars() []string {
	switch {
	case r.now().Kind == lex.TyVar:
		return []string{r.typeVar()}
	case !r.took("("):
		return nil
	}
	names := []string{r.typeVar()}
	for r.took(",") {
		names = append(names, r.typeVar())
	}
	r.need(")")
	return names
}

func (r *reader) structure() *api.Dec {
	d := &api.Dec{Kind: api.DecStruct, Name: r.name()}
	if r.is(":", ":>") {
		d.Opaque = r.need(":", ":>") == ":>"
		d.Sigs = []api.Sig{*r.sig()}
	}
	r.need("=")
	if !r.took("struct") {
		d.Names = []string{r.long()}
		return d
	}
	leave := r.scope()
	d.Decs = r.decs("structure", "signature")
	leave()
	r.need("end")
	return d
}

func (r *reader) signature() *api.Dec {
	d := &api.Dec{Kind: api.DecSig, Name: r.name()}
	r.need("=")
	r.need("sig")
	d.Specs = r.specs()
	return d
}

func (r *reader) sig() *api.Sig {
	if r.took("sig") {
		return &api.Sig{Specs: r.specs()}
	}
	return &api.Sig{Name: r.name()}
}

// specs reads specifications up to their end.
func (r *reader) specs() []api.Spec {
	var list []api.Spec
	for {
		switch r.need("val", "type", "datatype", "exception", ";", "end") {
		case "val":
			name := r.valueName()
			r.need(":")
			list = append(list, api.Spec{Kind: api.SpecVal, Name: name, Types: []api.Type{*r.ty()}})
		case "type":
			d := api.Data{Vars: r.typeVars(), Name: r.name()}
			list = append(list, api.Spec{Kind: api.SpecType, Data: d, Types: r.tyBehind("=")})
		case "datatype":
			list = append(list, api.Spec{Kind: api.SpecData, Data: *r.data()})
		case "exception":
			list = append(list, api.Spec{Kind: api.SpecExn, Name: r.name(), Types: r.tyBehind("of")})
		case "end":
			return list
		}
	}
}
