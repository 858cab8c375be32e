package word

import "smithy/api"

// code is an instruction as it is run: labels are left out, and where a jump goes is a place.
type code struct {
	kind  uint8
	how   uint8 // the condition, what is done with reals, the size
	count uint8 // how many registers are read
	d     uint32
	to    int32 // a place, or a function's number
	imm   uint64
	from  [api.MaxWordArgs + 1]uint32 // the registers that are read
}

// function is a function as it is run.
type function struct {
	name   string
	params int
	code   []code
}

// ready makes a program that may be ready to be run; it has nothing in common with it.
func ready(p api.WordProgram) []function {
	out := make([]function, len(p.Funs))
	for i, f := range p.Funs {
		out[i] = function{name: f.Name, params: f.Params, code: readyCode(f.Code)}
	}
	return out
}

func readyCode(l []api.Word) []code {
	at, _ := labels(l)
	places, n := make([]int32, len(l)), int32(0)
	for i, w := range l {
		places[i] = n
		if w.Kind != api.WordLabel {
			n++
		}
	}
	out := make([]code, 0, n)
	for _, w := range l {
		if w.Kind != api.WordLabel {
			out = append(out, readyWord(w, at, places))
		}
	}
	return out
}

func readyWord(w api.Word, at map[int]int, places []int32) code {
	out := code{kind: uint8(w.Kind), imm: uint64(w.Imm)}
	uses(w, func(use, number int) {
		switch use {
		case readsReg:
			out.from[out.count] = uint32(number)
			out.count++
		case setsReg:
			out.d = uint32(number)
		}
	})
	switch w.Kind {
	case api.WordSet:
		out.how = uint8(w.Cond)
	case api.WordReal:
		out.how = uint8(w.Real)
	case api.WordLoad, api.WordStore:
		out.how = uint8(w.Size)
	case api.WordJump:
		out.to = places[at[w.L]]
	case api.WordBranch:
		out.how, out.to = uint8(w.Cond), places[at[w.L]]
	case api.WordCall, api.WordTail, api.WordFunc:
		out.to = int32(w.F)
	}
	return out
}
