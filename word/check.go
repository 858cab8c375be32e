package word

import (
	"math"

	"smithy/api"
)

// Check tells whether a program may be.
func Check(p api.WordProgram) api.Errno {
	if !mayBe(p) {
		return api.ErrWordForm
	}
	return api.OK
}

func mayBe(p api.WordProgram) bool {
	if len(p.Funs) == 0 || p.Funs[0].Params != 0 || !dataMayBe(p) || !linesMayBe(p) {
		return false
	}
	for _, f := range p.Funs {
		if !headMayBe(f) || !codeMayBe(p, f) {
			return false
		}
	}
	return true
}

func dataMayBe(p api.WordProgram) bool {
	return isAmong(p.Zero, 0, api.MaxData-len(p.Data))
}

// linesMayBe stops at the limit: the functions of a program may all have the same long list of instructions.
func linesMayBe(p api.WordProgram) bool {
	left := api.MaxLines
	for _, f := range p.Funs {
		if len(f.Code) > left {
			return false
		}
		left -= len(f.Code)
	}
	return true
}

func headMayBe(f api.WordFunction) bool {
	return isAmong(f.Params, 0, api.MaxWordArgs) && isAmong(f.Regs, f.Params, api.MaxRegs) && isAmong(f.Slots, 0, api.MaxFrame)
}

func isAmong(n, least, greatest int) bool { return least <= n && n <= greatest }

func codeMayBe(p api.WordProgram, f api.WordFunction) bool {
	if len(f.Code) == 0 || !leaves(f.Code[len(f.Code)-1].Kind) {
		return false
	}
	at, once := labels(f.Code)
	if !once {
		return false
	}
	for _, w := range f.Code {
		if fields(w.Kind) == 0 || !placesMayBe(f, w) || !immMayBe(p, f, w) || !callMayBe(p, w) || !howMayBe(w) {
			return false
		}
		if _, is := at[w.L]; !is && fields(w.Kind)&fieldL != 0 {
			return false
		}
	}
	return true
}

// placesMayBe tells whether all registers that an instruction names are the function's.
func placesMayBe(f api.WordFunction, w api.Word) bool {
	fine := true
	uses(w, func(use, number int) {
		if use == readsReg || use == setsReg {
			fine = fine && isAmong(number, 0, f.Regs-1)
		}
	})
	return fine
}

func immMayBe(p api.WordProgram, f api.WordFunction, w api.Word) bool {
	least, greatest := int64(math.MinInt64), int64(math.MaxInt64)
	switch w.Kind {
	case api.WordLoad, api.WordStore:
		least, greatest = math.MinInt32, math.MaxInt32
	case api.WordData:
		least, greatest = 0, int64(len(p.Data)+p.Zero)
	case api.WordGet, api.WordPut:
		least, greatest = 0, int64(f.Slots-1)
	}
	return least <= w.Imm && w.Imm <= greatest
}

// callMayBe tells whether a function that is named is there, and whether as many arguments are handed to what is called as it takes.
func callMayBe(p api.WordProgram, w api.Word) bool {
	named := fields(w.Kind)
	if named&fieldF != 0 && !isAmong(w.F, 0, len(p.Funs)-1) {
		return false
	}
	switch w.Kind {
	case api.WordCall, api.WordTail:
		return len(w.Args) == p.Funs[w.F].Params
	case api.WordApply, api.WordGo:
		return len(w.Args) <= api.MaxWordArgs
	case api.WordSys:
		return len(w.Args) <= sysArgs
	}
	return true
}

func howMayBe(w api.Word) bool {
	named := fields(w.Kind)
	return (named&fieldCond == 0 || isAmong(w.Cond, api.CondEq, api.CondLeu)) &&
		(named&fieldReal == 0 || isAmong(w.Real, api.RealAdd, api.RealInt)) &&
		(named&fieldSize == 0 || sizeMayBe(w.Size))
}

func sizeMayBe(size int) bool { return size == 1 || size == 4 || size == 8 }
