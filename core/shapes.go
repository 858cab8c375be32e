package core

import (
	"smithy/api"
	"smithy/big"
	"smithy/prim"
)

// fit tells whether a value fits a shape; what is known then is what inner has and the shape's names. Cells are looked for
// outside of the shape, whose names may hide them.
func fit(s *api.Shape, v prim.Value, outer, inner *scope) (*scope, bool) {
	if s.Name != "" {
		inner = inner.with(s.Name, v)
	}
	switch s.Kind {
	case api.ShapeInt:
		return inner, big.Cmp(prim.As[api.Int](v), s.Int) == 0
	case api.ShapeText:
		return inner, prim.As[prim.Text](v) == prim.Text(s.Text)
	case api.ShapeSmall:
		number, block := small(v)
		return inner, block == nil && number == s.N
	case api.ShapeBlock:
		return fitBlock(s, v, outer, inner)
	case api.ShapeExn:
		return fitException(s, v, outer, inner)
	}
	return inner, true
}

// fitBlock looks at how many fields a block has only if its tag is the shape's.
func fitBlock(s *api.Shape, v prim.Value, outer, inner *scope) (*scope, bool) {
	tag, block := small(v)
	if block == nil || tag != s.N {
		return inner, false
	}
	prim.Must(len(block.Fields) == len(s.Kids))
	fits := true
	for i := range s.Kids {
		if inner, fits = fit(&s.Kids[i], block.Fields[i], outer, inner); !fits {
			return inner, false
		}
	}
	return inner, true
}

func fitException(s *api.Shape, v prim.Value, outer, inner *scope) (*scope, bool) {
	b := prim.As[*prim.Block](v)
	prim.Must(len(b.Fields) == 2)
	raised, asked := prim.As[*prim.Cell](b.Fields[0]), prim.As[*prim.Cell](outer.value(s.Cell))
	if raised != asked {
		return inner, false
	}
	return fit(&s.Kids[0], b.Fields[1], outer, inner)
}
