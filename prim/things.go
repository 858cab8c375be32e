package prim

import (
	"smithy/api"
	"smithy/big"
	"smithy/world"
)

// texts are the primitives of texts and of small numbers.
func texts() map[string]Primitive {
	return map[string]Primitive{
		"cat":  two(func(r *Run, s, t Text) Value { return r.text(string(s + t)) }),
		"size": one(func(_ *Run, s Text) Value { return count(len(s)) }),
		"ssub": two(func(r *Run, s Text, i api.Int) Value { return Small(s[r.place(len(s), i)]) }),
		"substring": three(func(r *Run, s Text, i, n api.Int) Value {
			rest := s[r.place(len(s)+1, i):]
			return r.text(string(rest[:r.place(len(rest)+1, n)]))
		}),
		"slt": two(func(_ *Run, s, t Text) Value { return Truth(s < t) }),
		"sle": two(func(_ *Run, s, t Text) Value { return Truth(s <= t) }),
		"clt": two(func(_ *Run, c, d Small) Value { return Truth(c < d) }),
		"cle": two(func(_ *Run, c, d Small) Value { return Truth(c <= d) }),
		"chr": one(func(r *Run, a api.Int) Value { return Small(r.below(256, a, api.ExnChr)) }),
		"ord": one(func(_ *Run, c Small) Value { return count(int(c)) }),
		"str": one(func(_ *Run, c Small) Value { return Text([]byte{byte(c)}) }),
	}
}

// things are the primitives of cells, vectors and bytes, and equality.
func things() map[string]Primitive {
	return map[string]Primitive{
		"eq":  two(func(r *Run, v, w Value) Value { return Truth(r.equal(v, w)) }),
		"ref": one(func(_ *Run, v Value) Value { return &Cell{v} }),
		"get": one(func(_ *Run, c *Cell) Value { return c.In }),
		"set": two(func(_ *Run, c *Cell, v Value) Value {
			c.In = v
			return Unit()
		}),
		"same":   two(func(_ *Run, c, d *Cell) Value { return Truth(c == d) }),
		"vector": one((*Run).vector),
		"vlen":   one(func(_ *Run, v *Vector) Value { return count(len(v.Items)) }),
		"vsub":   two(func(r *Run, v *Vector, i api.Int) Value { return v.Items[r.place(len(v.Items), i)] }),
		"bnew": one(func(r *Run, n api.Int) Value {
			many := r.below(api.MaxString+1, n, api.ExnSize)
			r.pay(many)
			return &Bytes{make([]byte, many)}
		}),
		"blen": one(func(_ *Run, b *Bytes) Value { return count(len(b.Data)) }),
		"bget": two(func(r *Run, b *Bytes, i api.Int) Value { return count(int(b.Data[r.place(len(b.Data), i)])) }),
		"bset": three(func(r *Run, b *Bytes, i, a api.Int) Value {
			b.Data[r.place(len(b.Data), i)] = lowByte(a)
			return Unit()
		}),
	}
}

// vector is a new vector of a list's elements.
func (r *Run) vector(list Value) Value {
	v := &Vector{}
	first, rest, is := Uncons(list)
	for is {
		v.Items = append(v.Items, first)
		first, rest, is = Uncons(rest)
	}
	r.pay(vectorBytes * len(v.Items))
	return v
}

// equal tells whether two values are the same.
func (r *Run) equal(v, w Value) bool {
	switch x := v.(type) {
	case api.Int:
		return big.Cmp(x, As[api.Int](w)) == 0
	case Small:
		if _, is := w.(*Block); is {
			return false
		}
		return x == As[Small](w)
	case Text:
		return x == As[Text](w)
	case *Block:
		if _, is := w.(Small); is {
			return false
		}
		y := As[*Block](w)
		r.Step()
		return x.Tag == y.Tag && r.equalAll(x.Fields, y.Fields)
	case *Vector:
		y := As[*Vector](w)
		r.Step()
		return r.equalAll(x.Items, y.Items)
	case *Cell:
		return x == As[*Cell](w)
	}
	return As[*Bytes](v) == As[*Bytes](w)
}

func (r *Run) equalAll(l, m []Value) bool {
	if len(l) != len(m) {
		return false
	}
	for i := range l {
		if !r.equal(l[i], m[i]) {
			return false
		}
	}
	return true
}

// outside are the primitives that meet the world.
func outside() map[string]Primitive {
	return map[string]Primitive{
		"print":     one(func(r *Run, s Text) Value { return r.written(s, r.world.Out) }),
		"eprint":    one(func(r *Run, s Text) Value { return r.written(s, r.world.Err) }),
		"inputline": one(func(r *Run, _ Value) Value { return r.text(r.world.Line()) }),
		"readfile":  one((*Run).read),
		"writefile": two((*Run).write),
		"exit":      one(func(_ *Run, a api.Int) Value { panic(Over{api.Exited, int(lowByte(a))}) }),
	}
}

func (r *Run) written(s Text, to func(string)) Value {
	r.pay(len(s))
	to(string(s))
	return Unit()
}

func (r *Run) read(name Text) Value {
	s, is := r.world.ReadFile(string(name))
	if !is || len(s) > api.MaxString {
		return r.RaiseBuiltIn(api.ExnIo)
	}
	return r.text(s)
}

// write finds out ahead of the cost whether the file can be written, in a world of its own: what is to be paid for is not
// done before.
func (r *Run) write(name, s Text) Value {
	if !world.New(api.World{}).WriteFile(string(name), "") {
		return r.RaiseBuiltIn(api.ExnIo)
	}
	return r.written(s, func(s string) { r.world.WriteFile(string(name), s) })
}
