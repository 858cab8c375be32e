package heap

import (
	"bytes"
	"encoding/binary"
	"encoding/hex"
	"math/bits"
	"slices"
	"strings"

	"smithy/api"
)

// Slow readings of the chapter's words, with no map and no header made by shifts.

// slowThing tells whether a thing may be, its Refs aside.
func slowThing(t api.Thing) bool {
	var tags, refs, least int // the greatest Tag, the greatest number of Refs, the least
	text := ""
	switch t.Kind {
	case api.HeapBlock:
		tags, refs = 65535, len(t.Refs)
	case api.HeapText, api.HeapBytes:
		text = t.Bytes
	case api.HeapBig:
		tags, text = 1, t.Bytes
		if !slowBig(t.Bytes, t.Tag) {
			return false
		}
	case api.HeapReal:
		text = t.Bytes
		if len(text) != 8 {
			return false
		}
	case api.HeapCell:
		refs, least = 1, 1
	case api.HeapVector:
		refs = len(t.Refs)
	case api.HeapClosure:
		tags, refs = 4194303, len(t.Refs)
	default:
		return false
	}
	return 0 <= t.Tag && t.Tag <= tags && least <= len(t.Refs) && len(t.Refs) <= refs && t.Bytes == text
}

// slowBig holds a magnitude's digits against those of 2^62.
func slowBig(limbs string, tag int) bool {
	if len(limbs) == 0 || len(limbs)%4 != 0 || strings.HasSuffix(limbs, "\x00\x00\x00\x00") {
		return false
	}
	b := []byte(limbs)
	slices.Reverse(b)
	digits := strings.TrimLeft(hex.EncodeToString(b), "0")
	least := "4000000000000000"
	if tag == 1 {
		least = "4000000000000001"
	}
	return len(digits) > len(least) || len(digits) == len(least) && digits >= least
}

// slowGraph tells whether a graph may be.
func slowGraph(g api.Graph) bool {
	values := slices.Clone(g.Roots)
	for _, t := range g.Things {
		if !slowThing(t) {
			return false
		}
		values = append(values, t.Refs...)
	}
	for _, v := range values {
		inSmall := v.Kind == api.RefSmall && (v.N<<1)>>1 == v.N
		inThings := v.Kind == api.RefThing && slices.Contains(numbers(len(g.Things)), v.N)
		if !inSmall && !inThings {
			return false
		}
	}
	return true
}

func numbers(n int) []int64 {
	var out []int64
	for i := range n {
		out = append(out, int64(i))
	}
	return out
}

// slowCanon looks for a thing's number along all that was met.
func slowCanon(g api.Graph) api.Graph {
	var met []int64
	meet := func(l []api.Ref) {
		for _, v := range l {
			if v.Kind == api.RefThing && !slices.Contains(met, v.N) {
				met = append(met, v.N)
			}
		}
	}
	meet(g.Roots)
	for i := 0; i < len(met); i++ {
		meet(g.Things[met[i]].Refs)
	}
	rename := func(l []api.Ref) []api.Ref {
		var out []api.Ref
		for _, v := range l {
			if v.Kind == api.RefThing {
				v.N = int64(slices.Index(met, v.N))
			}
			out = append(out, v)
		}
		return out
	}
	c := api.Graph{Roots: rename(g.Roots)}
	for _, n := range met {
		t := g.Things[n]
		t.Refs = rename(t.Refs)
		c.Things = append(c.Things, t)
	}
	return c
}

// slowLay are a graph's words, ahead of being bytes, and its roots'.
func slowLay(g api.Graph, at uint64) ([]uint64, []uint64) {
	place := func(n int64) uint64 {
		behind := at
		for _, t := range g.Things[:n] {
			behind += 8 * uint64(len(slowWords(t, func(int64) uint64 { return 0 })))
		}
		return behind
	}
	var all, roots []uint64
	for _, t := range g.Things {
		all = append(all, slowWords(t, place)...)
	}
	for _, v := range g.Roots {
		roots = append(roots, slowWord(v, place))
	}
	return all, roots
}

func slowWord(v api.Ref, place func(int64) uint64) uint64 {
	if v.Kind == api.RefThing {
		return place(v.N)
	}
	return uint64(2*v.N + 1)
}

func slowWords(t api.Thing, place func(int64) uint64) []uint64 {
	var inside []uint64
	head := 1 + 2*uint64(t.Kind)
	switch t.Kind {
	case api.HeapText, api.HeapBytes, api.HeapBig, api.HeapReal:
		b := []byte(t.Bytes)
		head += 256*uint64(t.Tag) + 16777216*uint64(len(b))
		for len(b)%8 != 0 {
			b = append(b, 0)
		}
		for i := 0; i < len(b); i += 8 {
			inside = append(inside, binary.LittleEndian.Uint64(b[i:]))
		}
	case api.HeapClosure:
		head += 16777216 * uint64(len(t.Refs)+1)
		inside = append(inside, 0x400000+16*uint64(t.Tag))
	default:
		head += 256*uint64(t.Tag) + 16777216*uint64(len(t.Refs))
	}
	for _, v := range t.Refs {
		inside = append(inside, slowWord(v, place))
	}
	return append([]uint64{head}, inside...)
}

// inBytes are words' bytes.
func inBytes(words ...uint64) []byte {
	var out []byte
	for _, w := range words {
		out = binary.LittleEndian.AppendUint64(out, w)
	}
	return out
}

// slowFits tells whether so many bytes may lie at an address.
func slowFits(at uint64, n int) bool {
	sum, carry := bits.Add64(at, uint64(n), 0)
	return at%8 == 0 && carry == 0 && sum <= 1<<63
}

// slowRead asks for each condition by itself.
func slowRead(b []byte, at uint64, roots []uint64) (api.Graph, api.Errno) {
	if !slowFits(at, len(b)) {
		return api.Graph{}, api.ErrArg
	}
	var met []uint64
	value := func(w uint64) api.Ref {
		if w&1 != 0 {
			return small((int64(w) - 1) / 2)
		}
		if !slices.Contains(met, w) {
			met = append(met, w)
		}
		return thing(int64(slices.Index(met, w)))
	}
	var g api.Graph
	for _, w := range roots {
		g.Roots = append(g.Roots, value(w))
	}
	for i := 0; i < len(met); i++ {
		t, inside, fits := slowIn(b, at, met[i])
		if !fits {
			return api.Graph{}, api.ErrLayout
		}
		for _, w := range inside {
			t.Refs = append(t.Refs, value(w))
		}
		g.Things = append(g.Things, t)
	}
	return g, api.OK
}

// slowIn is the thing at an address, ahead of its Refs, and the words of these.
func slowIn(b []byte, at, place uint64) (api.Thing, []uint64, bool) {
	none := api.Thing{}
	end := at + uint64(len(b))
	if place%8 != 0 || place < at || place >= end || end-place < 8 {
		return none, nil, false
	}
	b = b[place-at:]
	head := binary.LittleEndian.Uint64(b)
	if head&1 == 0 || head&64 != 0 || head&128 != 0 {
		return none, nil, false
	}
	t := api.Thing{Kind: int(head & 31 / 2), Tag: int(head / 256 % 65536)}
	length := head / 16777216
	b = b[8:]
	switch t.Kind {
	case api.HeapText, api.HeapBytes, api.HeapBig, api.HeapReal:
		room := (length + 7) / 8 * 8
		if room > uint64(len(b)) || len(bytes.Trim(b[length:room], "\x00")) > 0 {
			return none, nil, false
		}
		t.Bytes = string(b[:length])
		return t, nil, slowThing(t)
	case api.HeapBlock, api.HeapCell, api.HeapVector, api.HeapClosure:
		if length*8 > uint64(len(b)) {
			return none, nil, false
		}
		var inside []uint64
		for i := range length {
			inside = append(inside, binary.LittleEndian.Uint64(b[8*i:]))
		}
		if t.Kind == api.HeapClosure {
			if t.Tag != 0 || length == 0 || inside[0] < 0x400000 || inside[0]%16 != 0 || inside[0] > 0x400000+16*4194303 {
				return none, nil, false
			}
			t.Tag = int((inside[0] - 0x400000) / 16)
			inside = inside[1:]
		}
		like := t
		like.Refs = make([]api.Ref, len(inside))
		return t, inside, slowThing(like)
	}
	return none, nil, false
}
