package colour

import "smithy/api"

// reads tells where an instruction names the registers that it reads, one by one.
func reads(w *api.Word, tell func(register *int)) {
	switch w.Kind {
	case api.WordMove, api.WordLoad, api.WordApply, api.WordGo, api.WordRet, api.WordPut:
		tell(&w.A)
	case api.WordAdd, api.WordSub, api.WordMul, api.WordHigh, api.WordDiv, api.WordRem, api.WordAnd, api.WordOr, api.WordXor,
		api.WordShl, api.WordShr, api.WordSar, api.WordSet, api.WordReal, api.WordStore, api.WordBranch:
		tell(&w.A)
		tell(&w.B)
	}
	switch w.Kind {
	case api.WordCall, api.WordApply, api.WordTail, api.WordGo, api.WordSys:
		for i := range w.Args {
			tell(&w.Args[i])
		}
	}
}

// answers tells whether a kind of instructions sets a register.
func answers(kind int) bool {
	switch kind {
	case api.WordStore, api.WordLabel, api.WordJump, api.WordBranch, api.WordTail, api.WordGo, api.WordRet, api.WordPut:
		return false
	}
	return true
}

// calls tells whether no register but one is set behind a kind of instructions.
func calls(kind int) bool { return kind == api.WordCall || kind == api.WordApply }

// leaves tells whether a kind of instructions goes on with what is behind it never.
func leaves(kind int) bool {
	switch kind {
	case api.WordJump, api.WordTail, api.WordGo, api.WordRet:
		return true
	}
	return false
}

// again tells whether a kind of instructions may be done once more, in another place, and sets the same.
func again(kind int) bool {
	switch kind {
	case api.WordConst, api.WordData, api.WordFunc, api.WordHeap:
		return true
	}
	return false
}

// quiet tells whether a kind of instructions does nothing (but being stuck, perhaps) that isn't seen in what it sets.
func quiet(kind int) bool {
	return (answers(kind) || kind == api.WordPut) && !calls(kind) && kind != api.WordSys
}
