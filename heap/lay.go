package heap

import "smithy/api"

const (
	wordBytes = 8
	mark      = 1 << 5      // of a header; the collector's alone
	kindBits  = 15          // of a header, from bit 1 on
	tagBits   = maxBlockTag // of a header, from bit 8 on
	lengthAt  = 24          // the bit of a header from which on the length stands
	codeBytes = 16          // from a function's address to the next one's
	lastPlace = 1 << 63
	// maxAnswer is how many bytes one call answers: things may have one long text in common, so that no memory holds what would be laid.
	maxAnswer = 1<<31 - 1
)

// header is that of a thing that may be.
func header(t api.Thing) uint64 {
	tag, length := t.Tag, len(t.Bytes)+len(t.Refs)
	if t.Kind == api.HeapClosure { // its Tag lies in the word ahead of its values
		tag, length = 0, length+1
	}
	return 1 | uint64(t.Kind)<<1 | uint64(tag)<<8 | uint64(length)<<lengthAt
}

// size is that of a thing that may be.
func size(t api.Thing) int64 {
	n := 1 + (len(t.Bytes)+wordBytes-1)/wordBytes + len(t.Refs)
	if t.Kind == api.HeapClosure {
		n++
	}
	return int64(n) * wordBytes
}

// placeMayBe tells whether so many bytes may lie at an address.
func placeMayBe(at, bytes uint64) bool {
	return at%wordBytes == 0 && at <= lastPlace && bytes <= lastPlace-at
}

// placesFrom are the addresses of things that may be, one behind the other, from an address on; and how many bytes they have in all.
func placesFrom(at uint64, l []api.Thing) ([]uint64, uint64) {
	out := roomOf[uint64](len(l))
	all := uint64(0)
	for _, t := range l {
		out = append(out, at+all)
		all += uint64(size(t))
	}
	return out, all
}

// words are those of values of a graph whose things lie at places.
func words(l []api.Ref, places []uint64) []uint64 {
	out := roomOf[uint64](len(l))
	for _, r := range l {
		out = append(out, word(r, places))
	}
	return out
}

func word(r api.Ref, places []uint64) uint64 {
	if r.Kind == api.RefThing {
		return places[r.N]
	}
	return uint64(r.N)<<1 | 1
}

// laid are the bytes of things that lie at places, so many in all.
func laid(l []api.Thing, places []uint64, bytes int) []byte {
	out := roomOf[byte](bytes)
	for _, t := range l {
		out = putWord(out, header(t))
		out = append(out, t.Bytes...)
		for len(out)%wordBytes != 0 {
			out = append(out, 0)
		}
		if t.Kind == api.HeapClosure {
			out = putWord(out, api.CodeBase+codeBytes*uint64(t.Tag))
		}
		for _, r := range t.Refs {
			out = putWord(out, word(r, places))
		}
	}
	return out
}

// roomOf is an empty list with room for so many: a nil one for none.
func roomOf[T any](n int) []T {
	if n == 0 {
		return nil
	}
	return make([]T, 0, n)
}

// putWord puts a word behind bytes, its lowest byte first.
func putWord(b []byte, x uint64) []byte {
	for range wordBytes {
		b = append(b, byte(x))
		x >>= 8
	}
	return b
}

// wordOf is the word that the first bytes are.
func wordOf(b []byte) uint64 {
	x := uint64(0)
	for i := range wordBytes {
		x |= uint64(b[i]) << (8 * i)
	}
	return x
}
