package word

import (
	"math"

	"smithy/api"
)

// The system calls, how many arguments one may have, and how many bytes may be read or written at once.
const (
	sysRead  = 0
	sysWrite = 1
	sysOpen  = 2
	sysClose = 3
	sysExit  = 60

	sysArgs  = 3
	maxBytes = 1 << 31
)

// What a system call answers that can't be done, but for what the world answers.
const (
	noMemory  = math.MaxUint64 - 14 + 1
	wrongCall = math.MaxUint64 - 22 + 1
	longName  = math.MaxUint64 - 36 + 1
)

// system does a system call; false, if there is no such one. That which ends the process answers nothing that anyone could read.
func (s *Process) system(number, a, b, c uint64) (uint64, bool) {
	switch number {
	case sysRead:
		return s.sysRead(a, b, c), true
	case sysWrite:
		return s.sysWrite(a, b, c), true
	case sysOpen:
		return s.sysOpen(a, b), true
	case sysClose:
		return uint64(s.world.SysClose(int64(a))), true
	case sysExit:
		s.exit(a)
		return 0, true
	}
	return 0, false
}

func (s *Process) sysRead(fd, at, n uint64) uint64 {
	switch {
	case n > maxBytes:
		return wrongCall
	case !s.mem.there(at, n):
		return noMemory
	}
	text, answer := s.world.SysRead(int64(fd), n)
	for i := range len(text) {
		s.mem.store(at+uint64(i), 1, uint64(text[i]))
	}
	return uint64(answer)
}

// sysWrite asks first with no bytes, which changes nothing: so none are gathered for what is not to be written to.
func (s *Process) sysWrite(fd, at, n uint64) uint64 {
	switch {
	case n > maxBytes:
		return wrongCall
	case !s.mem.there(at, n):
		return noMemory
	}
	if answer := s.world.SysWrite(int64(fd), ""); answer < 0 {
		return uint64(answer)
	}
	text := make([]byte, n)
	for i := range text {
		b, _ := s.mem.load(at+uint64(i), 1)
		text[i] = byte(b)
	}
	return uint64(s.world.SysWrite(int64(fd), string(text)))
}

// sysOpen takes the bytes up to a byte 0 for the name, if that is near enough.
func (s *Process) sysOpen(at, flags uint64) uint64 {
	var name []byte
	for i := range uint64(api.MaxPath + 1) {
		b, there := s.mem.load(at+i, 1)
		switch {
		case !there:
			return noMemory
		case b == 0:
			return uint64(s.world.SysOpen(string(name), int64(flags)))
		}
		name = append(name, byte(b))
	}
	return longName
}
