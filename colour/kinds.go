package colour

import "smithy/api"

// reads tells where an instruction names the registers that it reads, one by one.
func reads(w *api.Word, tell func(register *int)) {
	switch w.Kind {
	case api.WordMove, api.WordLoad, api.WordApply, api.WordGo, api.WordRet, api.WordPut:
		tell(&w.A)
	case api.WordAdd, api.WordSub, api.WordMul, api.WordHigh, api.WordDiv, api.WordRem, api.WordAnd, api.WordOr, api.WordXor,
		api.WordShl, api.WordShr, api.WordSar, api.WordSet, api.WordReal, api.WordStore, api.WordBranch:
		tell(&w.A)
		tell(&w.B)
	}
	switch w.Kind {
	case api.WordCall, api.WordApply, api.WordTail, api.WordGo, api.WordSys:
		for i := range w.Args {
			tell(&w.Args[i])
		}
	}
}

// tidy is an instruction with nothing but what its kind has.
func tidy(w api.Word) api.Word {
	out := api.Word{Kind: w.Kind}
	if answers(w.Kind) {
		out.D = w.D
	}
	reads(&w, func(register *int) {
		switch register {
		case &w.A:
			out.A = w.A
		case &w.B:
			out.B = w.B
		default:
			out.Args = append(out.Args, *register)
		}
	})
	switch w.Kind {
	case api.WordConst, api.WordData, api.WordSys, api.WordGet, api.WordPut:
		out.Imm = w.Imm
	case api.WordLoad, api.WordStore:
		out.Imm, out.Size = w.Imm, w.Size
	case api.WordSet:
		out.Cond = w.Cond
	case api.WordReal:
		out.Real = w.Real
	case api.WordLabel, api.WordJump:
		out.L = w.L
	case api.WordBranch:
		out.Cond, out.L = w.Cond, w.L
	case api.WordCall, api.WordTail, api.WordFunc:
		out.F = w.F
	}
	return out
}

// answers tells whether a kind of instructions sets a register.
func answers(kind int) bool {
	switch kind {
	case api.WordStore, api.WordLabel, api.WordJump, api.WordBranch, api.WordTail, api.WordGo, api.WordRet, api.WordPut:
		return false
	}
	return true
}

// calls tells whether no register but one is set behind a kind of instructions.
func calls(kind int) bool { return kind == api.WordCall || kind == api.WordApply }

// leaves tells whether a kind of instructions goes on with what is behind it never.
func leaves(kind int) bool {
	switch kind {
	case api.WordJump, api.WordTail, api.WordGo, api.WordRet:
		return true
	}
	return false
}

// again tells whether a kind of instructions may be done once more, in another place, and sets the same.
func again(kind int) bool {
	switch kind {
	case api.WordConst, api.WordData, api.WordFunc, api.WordHeap:
		return true
	}
	return false
}

// quiet tells whether a kind of instructions does nothing (but being stuck, perhaps) that isn't seen in what it sets.
func quiet(kind int) bool {
	return (answers(kind) || kind == api.WordPut) && !calls(kind) && kind != api.WordSys
}
