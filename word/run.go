package word

import "smithy/api"

// read are the words that an instruction reads: no more than an address and its arguments.
type read [api.MaxWordArgs + 1]uint64

// step does an instruction; false, if it sticks, and has changed nothing.
func (s *Process) step() bool {
	f := &s.open[len(s.open)-1]
	c := &f.fun.code[f.at]
	var x read
	for i := range c.count {
		v, set := f.regs.get(uint(c.from[i]))
		if !set {
			return false
		}
		x[i] = v
	}
	switch c.kind {
	case api.WordJump:
		f.at = int(c.to)
		return true
	case api.WordBranch:
		f.at++
		if holds(int(c.how), x[0], x[1]) {
			f.at = int(c.to)
		}
		return true
	case api.WordCall, api.WordApply, api.WordTail, api.WordGo:
		return s.call(f, c, x[:c.count])
	case api.WordRet:
		s.back(x[0])
		return true
	case api.WordStore:
		if !s.mem.store(x[0]+c.imm, int(c.how), x[1]) {
			return false
		}
	case api.WordPut:
		f.slots.put(uint(c.imm), x[0], &s.spare)
	default:
		v, fine := s.value(f, c, &x)
		if !fine {
			return false
		}
		f.regs.put(uint(c.d), v, &s.spare)
	}
	f.at++
	return true
}

// value is what an instruction sets its register to; false, if it sticks.
func (s *Process) value(f *frame, c *code, x *read) (uint64, bool) {
	switch c.kind {
	case api.WordConst:
		return c.imm, true
	case api.WordMove:
		return x[0], true
	case api.WordSet:
		return one(holds(int(c.how), x[0], x[1])), true
	case api.WordReal:
		return ofReals(int(c.how), x[0], x[1]), true
	case api.WordLoad:
		return s.mem.load(x[0]+c.imm, int(c.how))
	case api.WordData:
		return api.DataBase + c.imm, true
	case api.WordFunc:
		return address(int(c.to)), true
	case api.WordHeap:
		return s.mem.heap.size, true
	case api.WordGet:
		return f.slots.get(uint(c.imm))
	case api.WordSys:
		return s.system(c.imm, x[0], x[1], x[2])
	}
	return ofWords(int(c.kind), x[0], x[1])
}

// address is where a function lies.
func address(f int) uint64 { return api.CodeBase + codeStep*uint64(f) }

const codeStep = 16

// function is the one that lies at an address, nil if none does.
func (s *Process) function(at uint64) *function {
	n := at - api.CodeBase
	if n%codeStep != 0 || n/codeStep >= uint64(len(s.funs)) {
		return nil
	}
	return &s.funs[n/codeStep]
}

// call begins the call of a function that an instruction names, or whose address is the first word that it reads.
func (s *Process) call(f *frame, c *code, args []uint64) bool {
	tail := c.kind == api.WordTail || c.kind == api.WordGo
	fun := &s.funs[c.to]
	if c.kind == api.WordApply || c.kind == api.WordGo {
		fun = s.function(args[0])
		args = args[1:]
	}
	if fun == nil || fun.params != len(args) || !tail && len(s.open) >= api.MaxCalls {
		return false
	}
	if tail {
		f.clear(&s.spare)
		f.begin(fun, args, &s.spare)
		return true
	}
	f.at++
	if s.strict {
		f.regs.clear(&s.spare)
	}
	s.push(fun, args)
	return true
}

// push opens a call. A frame behind the last one may have been used: it has no cell set then.
func (s *Process) push(fun *function, args []uint64) {
	if len(s.open) < cap(s.open) {
		s.open = s.open[:len(s.open)+1]
	} else {
		s.open = append(s.open, frame{})
	}
	s.open[len(s.open)-1].begin(fun, args, &s.spare)
}

func (s *Process) pop() {
	s.open[len(s.open)-1].clear(&s.spare)
	s.open = s.open[:len(s.open)-1]
}

// back ends a call, with what it answers.
func (s *Process) back(x uint64) {
	s.pop()
	switch {
	case len(s.open) > 0:
		f := &s.open[len(s.open)-1]
		f.regs.put(uint(f.fun.code[f.at-1].d), x, &s.spare)
	case s.entered:
		s.status, s.answer = api.WordDone, x
	default:
		s.exit(x)
	}
}

func (s *Process) exit(code uint64) { s.status, s.code = api.Exited, int(code%256) }
