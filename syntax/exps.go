package syntax

import (
	"smithy/api"
	"smithy/lex"
)

func (r *reader) exp() *api.Exp {
	if r.startsAhead() {
		return r.ahead()
	}
	e := r.either()
	for r.took("handle") {
		e = &api.Exp{Kind: api.ExpHandle, Kids: []api.Exp{*e}, Rules: r.match()}
	}
	return e
}

func (r *reader) startsAhead() bool { return r.is("raise", "if", "while", "case", "fn") }

// ahead reads an expression that begins with a word that says which.
func (r *reader) ahead() *api.Exp {
	switch r.take().Text {
	case "raise":
		return expOf(api.ExpRaise, r.exp())
	case "if":
		condition := r.exp()
		r.need("then")
		yes := r.exp()
		r.need("else")
		return expOf(api.ExpIf, condition, yes, r.exp())
	case "while":
		condition := r.exp()
		r.need("do")
		return expOf(api.ExpWhile, condition, r.exp())
	case "case":
		e := expOf(api.ExpCase, r.exp())
		r.need("of")
		e.Rules = r.match()
		return e
	}
	return &api.Exp{Kind: api.ExpFn, Rules: r.match()}
}

func expOf(kind int, kids ...*api.Exp) *api.Exp {
	e := &api.Exp{Kind: kind}
	for _, kid := range kids {
		e.Kids = append(e.Kids, *kid)
	}
	return e
}

func (r *reader) match() []api.Rule { return row(r, "|", r.rule) }

func (r *reader) rule() *api.Rule {
	p := r.pat()
	r.need("=>")
	return &api.Rule{P: *p, E: *r.exp()}
}

func (r *reader) either() *api.Exp {
	e := r.both()
	if !r.took("orelse") {
		return e
	}
	return expOf(api.ExpOr, e, r.aheadOr(r.either))
}

func (r *reader) both() *api.Exp {
	e := r.typed()
	if !r.took("andalso") {
		return e
	}
	return expOf(api.ExpAnd, e, r.aheadOr(r.both))
}

func (r *reader) aheadOr(other func() *api.Exp) *api.Exp {
	if r.startsAhead() {
		return r.ahead()
	}
	return other()
}

func (r *reader) typed() *api.Exp {
	e := operated(r, r.app, r.isOperator, joinExps)
	for r.took(":") {
		e = expOf(api.ExpTyped, e)
		e.Types = []api.Type{*r.ty()}
	}
	return e
}

func joinExps(name string, a, b *api.Exp) *api.Exp {
	return expOf(api.ExpApp, &api.Exp{Kind: api.ExpVar, Name: name}, tuple([]api.Exp{*a, *b}))
}

func tuple(kids []api.Exp) *api.Exp {
	return &api.Exp{Kind: api.ExpRecord, Labels: numbers(len(kids)), Kids: kids}
}

func (r *reader) app() *api.Exp {
	e := r.atom()
	for r.startsAtom() {
		e = expOf(api.ExpApp, e, r.atom())
	}
	return e
}

func (r *reader) startsAtom() bool {
	switch r.now().Kind {
	case lex.Int, lex.Real, lex.Char, lex.Text:
		return true
	}
	return r.isPlain() || r.is("op", "#", "(", "[", "{", "let")
}

func (r *reader) atom() *api.Exp {
	switch w := r.now(); {
	case w.Kind == lex.Int:
		return &api.Exp{Kind: api.ExpInt, Int: r.take().Int}
	case w.Kind == lex.Real:
		return &api.Exp{Kind: api.ExpReal, Bits: r.take().Bits}
	case w.Kind == lex.Char:
		return &api.Exp{Kind: api.ExpChar, N: r.take().N}
	case w.Kind == lex.Text:
		return &api.Exp{Kind: api.ExpText, Text: r.take().Text}
	case r.isPlain():
		return &api.Exp{Kind: api.ExpVar, Name: r.take().Text}
	case r.took("op"):
		return &api.Exp{Kind: api.ExpVar, Name: r.valueName()}
	case r.took("#"):
		return &api.Exp{Kind: api.ExpSelect, Name: r.label()}
	case r.took("("):
		return r.parenthesized()
	case r.took("["):
		return &api.Exp{Kind: api.ExpList, Kids: rowUpTo(r, "]", r.exp)}
	case r.took("{"):
		labels, kids := fields(r, "=", r.exp)
		return &api.Exp{Kind: api.ExpRecord, Labels: labels, Kids: kids}
	}
	r.need("let")
	return r.let()
}

// parenthesized reads what stands behind a parenthesis, up to the one that belongs to it.
func (r *reader) parenthesized() *api.Exp {
	if r.took(")") {
		return tuple(nil)
	}
	kids := row(r, ",", r.exp)
	if len(kids) > 1 {
		r.need(")")
		return tuple(kids)
	}
	e := sequence(more(r, kids, ";", r.exp))
	r.need(")")
	return e
}

func sequence(kids []api.Exp) *api.Exp {
	if len(kids) == 1 {
		return &kids[0]
	}
	return &api.Exp{Kind: api.ExpSeq, Kids: kids}
}

func (r *reader) let() *api.Exp {
	leave := r.scope()
	decs := r.decs()
	r.need("in")
	e := expOf(api.ExpLet, sequence(row(r, ";", r.exp)))
	leave()
	r.need("end")
	e.Decs = decs
	return e
}
