package syntax

import (
	"strings"

	"smithy/api"
	"smithy/lex"
)

func (r *reader) pat() *api.Pat {
	p := r.untypedPat()
	for r.took(":") {
		p = &api.Pat{Kind: api.PatTyped, Kids: []api.Pat{*p}, Types: []api.Type{*r.ty()}}
	}
	return p
}

func (r *reader) untypedPat() *api.Pat {
	if !r.isName() || !r.isAsBehind() {
		return operated(r, r.appliedPat, r.isPatOperator, joinPats)
	}
	name := r.name()
	r.need("as")
	return &api.Pat{Kind: api.PatAs, Name: name, Kids: []api.Pat{*r.pat()}}
}

// isAsBehind tells whether the word behind the one that comes is `as`.
func (r *reader) isAsBehind() bool {
	w := r.words[r.next+1]
	return w.Kind == lex.Key && w.Text == "as"
}

func joinPats(name string, a, b *api.Pat) *api.Pat {
	return &api.Pat{Kind: api.PatCon, Name: name, Kids: []api.Pat{*tuplePat([]api.Pat{*a, *b})}}
}

func tuplePat(kids []api.Pat) *api.Pat {
	return &api.Pat{Kind: api.PatRecord, Labels: numbers(len(kids)), Kids: kids}
}

func (r *reader) appliedPat() *api.Pat {
	isName := r.isPlain() || r.is("op")
	p := r.atpat()
	if !isName || !r.startsAtpat() {
		return p
	}
	return &api.Pat{Kind: api.PatCon, Name: p.Name, Kids: []api.Pat{*r.atpat()}}
}

func (r *reader) startsAtpat() bool {
	switch r.now().Kind {
	case lex.Int, lex.Char, lex.Text:
		return true
	}
	return r.isPlain() || r.is("_", "op", "(", "[", "{")
}

func (r *reader) atpat() *api.Pat {
	switch w := r.now(); {
	case w.Kind == lex.Int:
		return &api.Pat{Kind: api.PatInt, Int: r.take().Int}
	case w.Kind == lex.Char:
		return &api.Pat{Kind: api.PatChar, N: r.take().N}
	case w.Kind == lex.Text:
		return &api.Pat{Kind: api.PatText, Text: r.take().Text}
	case r.isPlain():
		return namePat(r.take().Text)
	case r.took("op"):
		return namePat(r.valueName())
	case r.took("("):
		return parenthesizedPat(rowUpTo(r, ")", r.pat))
	case r.took("["):
		return &api.Pat{Kind: api.PatList, Kids: rowUpTo(r, "]", r.pat)}
	case r.took("{"):
		labels, kids := fields(r, "=", r.pat)
		return &api.Pat{Kind: api.PatRecord, Labels: labels, Kids: kids}
	}
	r.need("_")
	return &api.Pat{Kind: api.PatWild}
}

// namePat is a name alone: a structure's can be no new variable.
func namePat(name string) *api.Pat {
	if strings.Contains(name, ".") {
		return &api.Pat{Kind: api.PatCon, Name: name}
	}
	return &api.Pat{Kind: api.PatVar, Name: name}
}

func parenthesizedPat(kids []api.Pat) *api.Pat {
	if len(kids) == 1 {
		return &kids[0]
	}
	return tuplePat(kids)
}
