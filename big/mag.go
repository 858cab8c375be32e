package big

import "cmp"

// Magnitudes are limbs, the least first. Those that come in are trimmed and only read; those that go out are new, and may have noughts at the end.

// trim leaves out the noughts at the end. Its room is cut off there too, so that nothing that is put behind it lands in what it was cut from.
func trim(mag []uint32) []uint32 {
	end := len(mag)
search:
	for end > 0 {
		switch mag[end-1] {
		case 0:
			end--
		default:
			break search
		}
	}
	if end == 0 {
		return nil
	}
	return mag[:end:end]
}

// compare is -1, 0, 1.
func compare(x, y []uint32) int {
	if len(x) != len(y) {
		return cmp.Compare(len(x), len(y))
	}
	for i := len(x) - 1; i >= 0; i-- {
		if x[i] != y[i] {
			return cmp.Compare(x[i], y[i])
		}
	}
	return 0
}

// sum is x + y.
func sum(x, y []uint32) []uint32 {
	if len(x) < len(y) {
		x, y = y, x
	}
	out := make([]uint32, len(x)+1)
	copy(out, x)
	addInto(out, y)
	return out
}

// addInto adds y to out, which is at least as long; what is carried beyond its end is dropped.
func addInto(out, y []uint32) {
	var carry uint64
	for i := range out {
		carry += uint64(out[i])
		if i < len(y) {
			carry += uint64(y[i])
		}
		out[i] = uint32(carry)
		carry >>= 32
	}
}

// difference is x - y, where y is not above x.
func difference(x, y []uint32) []uint32 {
	out := make([]uint32, len(x))
	copy(out, x)
	takeMultiple(out, y, 1)
	return out
}

// product is x times y.
func product(x, y []uint32) []uint32 {
	out := make([]uint32, len(x)+len(y))
	for i, limb := range x {
		// What x's lesser limbs came to ends at len(y) + i, so the last carry finds a nought there.
		var carry uint64
		for j, other := range y {
			carry += uint64(limb)*uint64(other) + uint64(out[i+j])
			out[i+j] = uint32(carry)
			carry >>= 32
		}
		out[i+len(y)] = uint32(carry)
	}
	return out
}
