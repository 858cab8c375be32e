package heap

import "smithy/api"

const (
	leastSmall    = -1 << 62
	greatestSmall = 1<<62 - 1
	maxBlockTag   = 1<<16 - 1
	maxFunction   = 1<<22 - 1
	limbBytes     = 4
	realBytes     = 8
)

func mayBe(g api.Graph) bool {
	if !valuesMayBe(g.Roots, len(g.Things)) {
		return false
	}
	for _, t := range g.Things {
		if !thingMayBe(t) || !valuesMayBe(t.Refs, len(g.Things)) {
			return false
		}
	}
	return true
}

// valuesMayBe tells whether each value is a small one in its bounds, or one of so many things.
func valuesMayBe(l []api.Ref, things int) bool {
	for _, r := range l {
		switch {
		case r.Kind == api.RefSmall && leastSmall <= r.N && r.N <= greatestSmall:
		case r.Kind == api.RefThing && 0 <= r.N && r.N < int64(things):
		default:
			return false
		}
	}
	return true
}

// thingMayBe looks at a thing's Refs by number alone.
func thingMayBe(t api.Thing) bool {
	if hasBytes(t.Kind) && len(t.Refs) > 0 || !hasBytes(t.Kind) && len(t.Bytes) > 0 {
		return false
	}
	switch t.Kind {
	case api.HeapBlock:
		return isAmong(t.Tag, 0, maxBlockTag)
	case api.HeapText, api.HeapBytes, api.HeapVector:
		return t.Tag == 0
	case api.HeapBig:
		return isAmong(t.Tag, 0, 1) && isBig(t.Bytes, t.Tag == 1)
	case api.HeapReal:
		return t.Tag == 0 && len(t.Bytes) == realBytes
	case api.HeapCell:
		return t.Tag == 0 && len(t.Refs) == 1
	case api.HeapClosure:
		return isAmong(t.Tag, 0, maxFunction)
	}
	return false
}

// hasBytes tells whether a kind's things have Bytes; those of other kinds have Refs.
func hasBytes(kind int) bool {
	return kind == api.HeapText || kind == api.HeapBytes || kind == api.HeapBig || kind == api.HeapReal
}

func isAmong(n, least, greatest int) bool { return least <= n && n <= greatest }

// isBig tells whether a magnitude's limbs are as they should stand, and the number is no small one.
func isBig(limbs string, below bool) bool {
	n := len(limbs)
	if n%limbBytes != 0 || n < 2*limbBytes || limbs[n-limbBytes:] == "\x00\x00\x00\x00" {
		return false
	}
	if n > 2*limbBytes {
		return true
	}
	magnitude := wordOf([]byte(limbs))
	return magnitude > greatestSmall+1 || magnitude == greatestSmall+1 && !below
}
