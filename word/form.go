package word

import "smithy/api"

// Fields that a kind of instruction names. Imm stands with none of them: what it may be hangs on the kind.
const (
	fieldD = 1 << iota
	fieldA
	fieldB
	fieldL
	fieldF
	fieldArgs
	fieldCond
	fieldReal
	fieldSize
)

// fields are those that a kind names, 0 of a kind that there isn't.
func fields(kind int) int {
	switch kind {
	case api.WordConst, api.WordData, api.WordHeap, api.WordGet:
		return fieldD
	case api.WordMove:
		return fieldD | fieldA
	case api.WordAdd, api.WordSub, api.WordMul, api.WordHigh, api.WordDiv, api.WordRem, api.WordAnd, api.WordOr, api.WordXor, api.WordShl, api.WordShr, api.WordSar:
		return fieldD | fieldA | fieldB
	case api.WordSet:
		return fieldD | fieldA | fieldB | fieldCond
	case api.WordReal:
		return fieldD | fieldA | fieldB | fieldReal
	case api.WordLoad:
		return fieldD | fieldA | fieldSize
	case api.WordStore:
		return fieldA | fieldB | fieldSize
	case api.WordLabel, api.WordJump:
		return fieldL
	case api.WordBranch:
		return fieldA | fieldB | fieldCond | fieldL
	case api.WordCall:
		return fieldD | fieldF | fieldArgs
	case api.WordApply:
		return fieldD | fieldA | fieldArgs
	case api.WordTail:
		return fieldF | fieldArgs
	case api.WordGo:
		return fieldA | fieldArgs
	case api.WordRet, api.WordPut:
		return fieldA
	case api.WordFunc:
		return fieldD | fieldF
	case api.WordSys:
		return fieldD | fieldArgs
	}
	return 0
}

// What an instruction does with a register or a slot.
const (
	readsReg = iota
	setsReg
	readsSlot
	setsSlot
)

// uses tells which registers and slots an instruction reads and sets, one by one; what is read comes first.
func uses(w api.Word, tell func(use, number int)) {
	named := fields(w.Kind)
	if named&fieldA != 0 {
		tell(readsReg, w.A)
	}
	if named&fieldB != 0 {
		tell(readsReg, w.B)
	}
	if named&fieldArgs != 0 {
		for _, r := range w.Args {
			tell(readsReg, r)
		}
	}
	switch w.Kind {
	case api.WordGet:
		tell(readsSlot, int(w.Imm))
	case api.WordPut:
		tell(setsSlot, int(w.Imm))
	}
	if named&fieldD != 0 {
		tell(setsReg, w.D)
	}
}

// leaves tells whether what stands behind an instruction is come to by jumps alone.
func leaves(kind int) bool {
	return kind == api.WordJump || kind == api.WordTail || kind == api.WordGo || kind == api.WordRet
}

// calls tells whether an instruction is behind a call when it is done.
func calls(kind int) bool { return kind == api.WordCall || kind == api.WordApply }

// labels are the places of a function's labels, by their numbers; false, if a number is there twice.
func labels(l []api.Word) (map[int]int, bool) {
	at := map[int]int{}
	for i, w := range l {
		if w.Kind != api.WordLabel {
			continue
		}
		if _, twice := at[w.L]; twice {
			return nil, false
		}
		at[w.L] = i
	}
	return at, true
}
