package match

import "smithy/api"

// shape is one of Core with its head's number, from 1 on; that of ShapeAny is 0.
type shape struct {
	head int
	span int
	kids []shape
}

// head is what two shapes have in common that have the same one.
type head struct {
	kind, n, kids int
	text          string
}

// headOf is the head of a shape that is no ShapeAny.
func headOf(s *api.Shape) head {
	h := head{kind: s.Kind, kids: len(s.Kids)}
	switch s.Kind {
	case api.ShapeInt:
		h.text = digits(s.Int)
	case api.ShapeText:
		h.text = s.Text
	case api.ShapeExn:
		h.text = s.Cell
	case api.ShapeSmall, api.ShapeBlock:
		h.n = s.N
	}
	return h
}

// digits is a text that only this integer has, which stands as it should.
func digits(a api.Int) string {
	text := []byte{'+'}
	if a.Neg {
		text[0] = '-'
	}
	for _, limb := range a.Mag {
		text = append(text, byte(limb), byte(limb>>8), byte(limb>>16), byte(limb>>24))
	}
	return string(text)
}

// isTagged tells whether a head is that of a small number or a block, of which it is known how many there are.
func (h *head) isTagged() bool { return h.kind == api.ShapeSmall || h.kind == api.ShapeBlock }

// heads are those that were met, by numbers.
type heads struct {
	numbers map[head]int
	list    []known // that of number 1 is the first one
}

// known is a head, and at which look it was met at last.
type known struct {
	head
	looked int
}

func newHeads() heads { return heads{numbers: map[head]int{}} }

// shape is a shape with the numbers of its heads.
func (h *heads) shape(s *api.Shape) shape {
	if s.Kind == api.ShapeAny {
		return shape{}
	}
	out := shape{head: h.number(headOf(s)), span: s.Span}
	if len(s.Kids) > 0 {
		out.kids = make([]shape, len(s.Kids))
	}
	for i := range s.Kids {
		out.kids[i] = h.shape(&s.Kids[i])
	}
	return out
}

func (h *heads) number(one head) int {
	number := h.numbers[one]
	if number == 0 {
		h.list = append(h.list, known{head: one})
		number = len(h.list)
		h.numbers[one] = number
	}
	return number
}

// of is the head of that number.
func (h *heads) of(number int) *known { return &h.list[number-1] }
