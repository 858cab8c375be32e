package data

import (
	"smithy/api"
	"smithy/basisrt"
	"smithy/build"
	"smithy/gcrt"
)

const (
	limbBytes = 4
	smallBits = 62 // of a small number's magnitude
	codeStep  = 16 // how far functions' addresses are apart
)

// static is the data: the collector's cells, what the primitives need, and things that never change, each of them once.
type static struct {
	bytes    []byte
	unitAt   int
	limitAt  int
	texts    map[string]int
	bigs     map[string]int
	reals    map[uint64]int
	blocks   map[int]int // those without fields, by their headers' tags
	closures map[int]int // those that have captured nothing, by their word functions
}

func newStatic() *static {
	s := &static{texts: map[string]int{}, bigs: map[string]int{}, reals: map[uint64]int{}, blocks: map[int]int{}, closures: map[int]int{}}
	s.unitAt = gcrt.Cells()
	s.blocks[0] = s.unitAt
	s.bytes = append(make([]byte, s.unitAt), basisrt.Static()...)
	s.limitAt = s.room(0)
	s.word(0)
	return s
}

// room is where the next thing is laid, which has so many bytes behind its header.
func (s *static) room(size int) int {
	if len(s.bytes)+size >= api.MaxData {
		panic(tooLong{})
	}
	return len(s.bytes)
}

func (s *static) word(x uint64) {
	for range build.WordBytes {
		s.bytes = append(s.bytes, byte(x))
		x >>= 8
	}
}

// head lays a thing's header, and answers where.
func (s *static) head(kind, tag, length, size int) int {
	at := s.room(size)
	s.word(uint64(build.Header(int64(kind), int64(length)) | int64(tag)<<build.TagAt))
	return at
}

// fill lays bytes of 0 up to the next word.
func (s *static) fill() {
	for len(s.bytes)%build.WordBytes > 0 {
		s.bytes = append(s.bytes, 0)
	}
}

// once is where a thing lies that has a key; lay lays it, if it was not laid yet.
func once[K comparable](all map[K]int, key K, lay func() int) int {
	if at, is := all[key]; is {
		return at
	}
	at := lay()
	all[key] = at
	return at
}

func (s *static) text(text string) int {
	return once(s.texts, text, func() int {
		at := s.head(api.HeapText, 0, len(text), len(text))
		s.bytes = append(s.bytes, text...)
		s.fill()
		return at
	})
}

func (s *static) real(bits uint64) int {
	return once(s.reals, bits, func() int {
		at := s.head(api.HeapReal, 0, build.WordBytes, build.WordBytes)
		s.word(bits)
		return at
	})
}

// block is one without fields.
func (s *static) block(tag int) int {
	return once(s.blocks, tag, func() int { return s.head(api.HeapBlock, tag, 0, 0) })
}

// closure is one that has captured nothing.
func (s *static) closure(function int) int {
	return once(s.closures, function, func() int {
		at := s.head(api.HeapClosure, 0, 1, build.WordBytes)
		s.word(api.CodeBase + codeStep*uint64(function))
		return at
	})
}

// big is an integer that is no small number.
func (s *static) big(a api.Int) int {
	sign, size := 0, limbBytes*len(a.Mag)
	if a.Neg {
		sign = 1
	}
	limbs := make([]byte, 0, size+1)
	for _, x := range a.Mag {
		limbs = append(limbs, byte(x), byte(x>>8), byte(x>>16), byte(x>>24))
	}
	return once(s.bigs, string(append(limbs, byte(sign))), func() int {
		at := s.head(api.HeapBig, sign, size, size)
		s.bytes = append(s.bytes, limbs...)
		s.fill()
		return at
	})
}

// constant is what an atom is that is no local: a word, or a place of the data.
func (s *static) constant(a *api.Atom) (x int64, inData bool) {
	switch a.Kind {
	case api.AtomInt:
		if n, is := small(a.Int); is {
			return 2*n + 1, false
		}
		return int64(s.big(a.Int)), true
	case api.AtomText:
		return int64(s.text(a.Text)), true
	case api.AtomReal:
		return int64(s.real(a.Bits)), true
	case api.AtomExn:
		return int64(build.ExceptionsAt + exceptionBytes*a.V), true
	}
	return 2*int64(a.V) + 1, false
}

// small is an integer's number, if it is a small one.
func small(a api.Int) (n int64, is bool) {
	if len(a.Mag) > 2 {
		return 0, false
	}
	var x uint64
	for i, limb := range a.Mag {
		x |= uint64(limb) << (8 * limbBytes * i)
	}
	if a.Neg {
		return -int64(x), x <= 1<<smallBits
	}
	return int64(x), x < 1<<smallBits
}
