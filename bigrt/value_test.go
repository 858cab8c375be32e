package bigrt

import (
	"encoding/binary"
	"fmt"

	"smithy/api"
	"smithy/big"
)

// value is one as a program has it: a small number, or a thing without values.
type value struct {
	small int64
	thing *api.Thing
}

func number(n int64) value { return value{small: n} }

func thing(kind, tag int, bytes string) value {
	return value{thing: &api.Thing{Kind: kind, Tag: tag, Bytes: bytes}}
}

func textOf(s string) value { return thing(api.HeapText, 0, s) }

func realOf(bits uint64) value {
	return thing(api.HeapReal, 0, string(binary.LittleEndian.AppendUint64(nil, bits)))
}

func truth(is bool) value {
	if is {
		return number(1)
	}
	return number(0)
}

// integer is an integer's value.
func integer(n api.Int) value {
	if x, fits := big.Int64(n); fits && x >= -1<<62 && x < 1<<62 {
		return number(x)
	}
	var b []byte
	for _, x := range n.Mag {
		b = binary.LittleEndian.AppendUint32(b, x)
	}
	tag := 0
	if n.Neg {
		tag = 1
	}
	return thing(api.HeapBig, tag, string(b))
}

// int is the integer that a value is.
func (v value) int() api.Int {
	if v.thing == nil {
		return big.Of(v.small)
	}
	n := api.Int{Neg: v.thing.Tag == 1}
	for b := []byte(v.thing.Bytes); len(b) > 0; b = b[4:] {
		n.Mag = append(n.Mag, binary.LittleEndian.Uint32(b))
	}
	return n
}

// same tells whether two values are the same, things by what they say.
func (v value) same(u value) bool {
	if v.thing == nil || u.thing == nil {
		return v == u
	}
	return v.thing.Kind == u.thing.Kind && v.thing.Tag == u.thing.Tag && v.thing.Bytes == u.thing.Bytes
}

func (v value) String() string {
	switch {
	case v.thing == nil:
		return fmt.Sprint("small ", v.small)
	case len(v.thing.Bytes) > 400:
		return fmt.Sprintf("kind %d, tag %d, %d bytes", v.thing.Kind, v.thing.Tag, len(v.thing.Bytes))
	case v.thing.Kind == api.HeapBig:
		return fmt.Sprintf("big %v, limbs %x", v.int().Neg, v.int().Mag)
	}
	return fmt.Sprintf("kind %d, tag %d, %x", v.thing.Kind, v.thing.Tag, v.thing.Bytes)
}

// power2 is 2^n.
func power2(n int) api.Int {
	out := api.Int{Mag: make([]uint32, n/32+1)}
	out.Mag[n/32] = 1 << (n % 32)
	return out
}

// near is n + d.
func near(n api.Int, d int64) api.Int { return big.Add(n, big.Of(d)) }
