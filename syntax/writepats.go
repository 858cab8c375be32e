package syntax

import (
	"smithy/api"
	"smithy/big"
)

// How close a pattern or an expression holds together, the loosest first: each stands without parentheses where its
// rank is asked for, or one ahead of it.
const (
	rankAs     = iota // of patterns alone
	rankHandle        // of expressions alone, as the next two
	rankOr
	rankAnd
	rankTyped
	rankInfix
	rankApp
	rankAtom
)

func (w *writer) pat(p *api.Pat, rank int) {
	w.down()
	free := w.rankOfPat(p) >= rank
	if !free {
		w.words("(")
	}
	w.barePat(p)
	if !free {
		w.words(")")
	}
	w.up()
}

func (w *writer) rankOfPat(p *api.Pat) int {
	switch {
	case p.Kind == api.PatAs:
		return rankAs
	case p.Kind == api.PatTyped:
		return rankTyped
	case w.fixityOfPat(p).infix:
		return rankInfix
	case p.Kind == api.PatCon && len(p.Kids) > 0:
		return rankApp
	}
	return rankAtom
}

// fixityOfPat is that of the operator that a pattern is written with, if it is.
func (w *writer) fixityOfPat(p *api.Pat) fixity {
	if p.Kind != api.PatCon || p.Name == "=" || !isPair(item(p.Kids, 0)) {
		return fixity{}
	}
	return w.of(p.Name)
}

func isPair(p *api.Pat) bool {
	return p.Kind == api.PatRecord && len(p.Kids) == 2 && isTuple(p.Labels, 2)
}

func (w *writer) barePat(p *api.Pat) {
	switch p.Kind {
	case api.PatWild:
		w.words("_")
	case api.PatVar:
		w.reference(p.Name)
	case api.PatInt:
		w.words(big.Text(p.Int))
	case api.PatChar:
		w.words(charText(p.N))
	case api.PatText:
		w.words(quoted(p.Text))
	case api.PatCon:
		w.conPat(p)
	case api.PatRecord:
		w.recordPat(p)
	case api.PatAs:
		w.words(p.Name, "as")
		w.wholePat(item(p.Kids, 0))
	case api.PatTyped:
		w.pat(item(p.Kids, 0), rankTyped)
		w.tyBehind(":", p.Types)
	case api.PatList:
		w.words("[")
		writeRow(w, p.Kids, ",", w.wholePat)
		w.words("]")
	}
}

func (w *writer) wholePat(p *api.Pat) { w.pat(p, rankAs) }

func (w *writer) conPat(p *api.Pat) {
	if f := w.fixityOfPat(p); f.infix {
		pair := p.Kids[0].Kids
		w.patOperand(&pair[0], f, false)
		w.words(p.Name)
		w.patOperand(&pair[1], f, true)
		return
	}
	w.reference(p.Name)
	if len(p.Kids) > 0 {
		w.pat(&p.Kids[0], rankAtom)
	}
}

// patOperand writes what stands to one side of an operator.
func (w *writer) patOperand(p *api.Pat, about fixity, right bool) {
	w.pat(p, rankBeside(w.fixityOfPat(p), about, right))
}

// rankBeside is the rank of what may stand to one side of an operator, if that is written with the operator inner.
func rankBeside(inner, about fixity, right bool) int {
	if inner.infix && (inner.level > about.level || inner == about && about.right == right) {
		return rankInfix
	}
	return rankApp
}

func (w *writer) recordPat(p *api.Pat) {
	if !isTuple(p.Labels, len(p.Kids)) {
		writeFields(w, p.Labels, p.Kids, "=", w.wholePat)
		return
	}
	w.words("(")
	writeRow(w, p.Kids, ",", w.wholePat)
	w.words(")")
}
