package syntax

import (
	"smithy/api"
	"smithy/big"
)

// What an expression may leave open at its end: there, words that stand behind it would be read as its own.
const (
	openNothing = iota
	openNoRules // a `|` stands behind it, which rules would take
	openAll
)

// openAheadOf is what may be left open ahead of a `|`, or of a word that no expression takes.
func openAheadOf(bar bool) int {
	if bar {
		return openNoRules
	}
	return openAll
}

func (w *writer) wholeExp(e *api.Exp) { w.exp(e, rankHandle, openAll) }

func (w *writer) exp(e *api.Exp, rank, open int) {
	w.down()
	if w.standsFree(e, rank, open) {
		w.bareExp(e, open)
	} else {
		w.words("(")
		w.bareExp(e, openAll)
		w.words(")")
	}
	w.up()
}

func (w *writer) standsFree(e *api.Exp, rank, open int) bool {
	switch e.Kind {
	case api.ExpRaise, api.ExpIf, api.ExpWhile:
		return open != openNothing
	case api.ExpFn, api.ExpCase:
		return open == openAll
	case api.ExpHandle:
		return open == openAll && rank <= rankHandle
	}
	return w.rankOfExp(e) >= rank
}

func (w *writer) rankOfExp(e *api.Exp) int {
	switch e.Kind {
	case api.ExpOr:
		return rankOr
	case api.ExpAnd:
		return rankAnd
	case api.ExpTyped:
		return rankTyped
	case api.ExpApp:
		if w.fixityOfExp(e).infix {
			return rankInfix
		}
		return rankApp
	}
	return rankAtom
}

// fixityOfExp is that of the operator that an expression is written with, if it is.
func (w *writer) fixityOfExp(e *api.Exp) fixity {
	f, x := item(e.Kids, 0), item(e.Kids, 1)
	if e.Kind != api.ExpApp || f.Kind != api.ExpVar || x.Kind != api.ExpRecord || len(x.Kids) != 2 || !isTuple(x.Labels, 2) {
		return fixity{}
	}
	return w.of(f.Name)
}

func (w *writer) bareExp(e *api.Exp, open int) {
	switch e.Kind {
	case api.ExpInt:
		w.words(big.Text(e.Int))
	case api.ExpReal:
		w.words(realText(e.Bits, w.tight))
	case api.ExpChar:
		w.words(charText(e.N))
	case api.ExpText:
		w.words(quoted(e.Text))
	case api.ExpVar:
		w.reference(e.Name)
	case api.ExpSelect:
		w.words("#", e.Name)
	case api.ExpRecord:
		w.recordExp(e)
	case api.ExpList:
		w.words("[")
		writeRow(w, e.Kids, ",", w.wholeExp)
		w.words("]")
	case api.ExpSeq:
		w.words("(")
		writeRow(w, e.Kids, ";", w.wholeExp)
		w.words(")")
	case api.ExpLet:
		w.let(e)
	case api.ExpApp:
		w.app(e)
	default:
		w.looseExp(e, open)
	}
}

// looseExp writes an expression of more than atoms.
func (w *writer) looseExp(e *api.Exp, open int) {
	first, second := item(e.Kids, 0), item(e.Kids, 1)
	switch e.Kind {
	case api.ExpTyped:
		w.exp(first, rankTyped, openNothing)
		w.tyBehind(":", e.Types)
	case api.ExpAnd:
		w.exp(first, rankTyped, openNothing)
		w.words("andalso")
		w.exp(second, rankAnd, open)
	case api.ExpOr:
		w.exp(first, rankAnd, openNothing)
		w.words("orelse")
		w.exp(second, rankOr, open)
	case api.ExpHandle:
		w.exp(first, rankOr, openNothing)
		w.words("handle")
		w.match(e.Rules)
	case api.ExpRaise:
		w.words("raise")
		w.exp(first, rankHandle, open)
	case api.ExpIf:
		w.words("if")
		w.wholeExp(first)
		w.words("then")
		w.wholeExp(second)
		w.words("else")
		w.exp(item(e.Kids, 2), rankHandle, open)
	case api.ExpWhile:
		w.words("while")
		w.wholeExp(first)
		w.words("do")
		w.exp(second, rankHandle, open)
	case api.ExpCase:
		w.words("case")
		w.wholeExp(first)
		w.words("of")
		w.match(e.Rules)
	case api.ExpFn:
		w.words("fn")
		w.match(e.Rules)
	}
}

func (w *writer) match(rules []api.Rule) {
	for i := range rules {
		if i > 0 {
			w.words("|")
		}
		w.wholePat(&rules[i].P)
		w.words("=>")
		w.exp(&rules[i].E, rankHandle, openAheadOf(i+1 < len(rules)))
	}
}

func (w *writer) app(e *api.Exp) {
	if f := w.fixityOfExp(e); f.infix {
		pair := e.Kids[1].Kids
		w.operand(&pair[0], f, false)
		w.words(e.Kids[0].Name)
		w.operand(&pair[1], f, true)
		return
	}
	w.exp(item(e.Kids, 0), rankApp, openNothing)
	w.exp(item(e.Kids, 1), rankAtom, openNothing)
}

// operand writes what stands to one side of an operator.
func (w *writer) operand(e *api.Exp, about fixity, right bool) {
	w.exp(e, rankBeside(w.fixityOfExp(e), about, right), openNothing)
}

func (w *writer) recordExp(e *api.Exp) {
	if !isTuple(e.Labels, len(e.Kids)) {
		writeFields(w, e.Labels, e.Kids, "=", w.wholeExp)
		return
	}
	w.words("(")
	writeRow(w, e.Kids, ",", w.wholeExp)
	w.words(")")
}

func (w *writer) let(e *api.Exp) {
	leave := w.scope()
	w.words("let")
	for i := range e.Decs {
		w.dec(&e.Decs[i])
	}
	w.words("in")
	if body := item(e.Kids, 0); body.Kind == api.ExpSeq {
		writeRow(w, body.Kids, ";", w.wholeExp)
	} else {
		w.wholeExp(body)
	}
	w.words("end")
	leave()
}
