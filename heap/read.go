package heap

import "smithy/api"

// memory is bytes from an address on.
type memory struct {
	bytes []byte
	at    uint64
}

// from are the bytes from an address on, none if it may not be a thing's.
func (m memory) from(at uint64) []byte {
	if at%wordBytes != 0 || at < m.at || at-m.at > uint64(len(m.bytes)) {
		return nil
	}
	return m.bytes[at-m.at:]
}

// read is the graph that words reach; false, if something that is reached doesn't fit.
func read(m memory, roots []uint64) (api.Graph, bool) {
	r := newRow[uint64]()
	g := api.Graph{Roots: roomOf[api.Ref](len(roots))}
	for _, w := range roots {
		g.Roots = append(g.Roots, value(w, r))
	}
	for i := 0; i < len(r.met); i++ { // the row grows meanwhile
		t, values, fits := thingIn(m.from(r.met[i]))
		if !fits {
			return api.Graph{}, false
		}
		for j := range t.Refs {
			t.Refs[j] = value(wordOf(values[j*wordBytes:]), r)
		}
		g.Things = append(g.Things, t)
	}
	return g, true
}

// value is what a word says. The thing whose address it is may yet turn out not to be there.
func value(w uint64, r *row[uint64]) api.Ref {
	if w%2 == 1 {
		return api.Ref{Kind: api.RefSmall, N: int64(w) >> 1}
	}
	return r.meet(w)
}

// thingIn is the thing that lies at the beginning of b, with its Refs by number alone, and the bytes of these; false, if what
// lies there is not laid out just as a thing that may be.
func thingIn(b []byte) (api.Thing, []byte, bool) {
	if len(b) < wordBytes {
		return api.Thing{}, nil, false
	}
	head := wordOf(b) &^ mark
	t := api.Thing{Kind: int(head >> 1 & kindBits), Tag: int(head >> 8 & tagBits)}
	inside, fits := cut(b[wordBytes:], head>>lengthAt, hasBytes(t.Kind))
	if !fits {
		return api.Thing{}, nil, false
	}
	if hasBytes(t.Kind) {
		t.Bytes = string(inside)
		return t, nil, isLaid(t, head)
	}
	if t.Kind == api.HeapClosure {
		if t.Tag, fits = functionIn(inside); !fits {
			return api.Thing{}, nil, false
		}
		inside = inside[wordBytes:]
	}
	refs := len(inside) / wordBytes
	t.Refs = roomOf[api.Ref](refs)[:refs]
	return t, inside, isLaid(t, head)
}

// cut are the first bytes of b, so many as a header's length says, of bytes or of words; false, if they aren't there, or bytes
// up to the next word aren't there, or are not 0.
func cut(b []byte, length uint64, ofBytes bool) ([]byte, bool) {
	n := length
	if !ofBytes {
		n *= wordBytes
	}
	room := (n + wordBytes - 1) / wordBytes * wordBytes
	if room > uint64(len(b)) {
		return nil, false
	}
	for _, x := range b[n:room] {
		if x != 0 {
			return nil, false
		}
	}
	return b[:n], true
}

// functionIn is the number of the function whose address the first word is; false, if there is no word, or no function.
func functionIn(b []byte) (int, bool) {
	if len(b) == 0 {
		return 0, false
	}
	far := wordOf(b) - api.CodeBase // far beyond all functions, if it is below the first one
	if far%codeBytes != 0 || far/codeBytes > maxFunction {
		return 0, false
	}
	return int(far / codeBytes), true
}

// isLaid tells whether a thing may be, and has just that header: the bits 0, 6 and 7 and a closure's Tag are as they must be.
func isLaid(t api.Thing, head uint64) bool {
	return thingMayBe(t) && header(t) == head
}
