package core

import (
	"cmp"
	"slices"

	"smithy/api"
	"smithy/big"
	"smithy/prim"
)

// smalls is how many small numbers there are, and how many tags.
const smalls = 1 << 30

// checker tells whether terms may be; known is how many times a name is bound about the one that is looked at.
type checker struct {
	known      map[string]int
	primitives map[string]prim.Primitive
}

func newChecker() *checker { return &checker{map[string]int{}, prim.Primitives()} }

// term tells whether a term may be that is so deep.
func (k *checker) term(c *api.Core, deep int) bool {
	return deep <= api.MaxTerm && len(c.Kids) == k.kids(c) && (len(c.Rows) == 0 || c.Kind == api.CoreCase) && k.own(c) && k.within(c, deep+1)
}

// kids is how many kids a term must have; below 0, if there is no such term.
func (k *checker) kids(c *api.Core) int {
	switch c.Kind {
	case api.CoreVar, api.CoreInt, api.CoreSmall, api.CoreReal, api.CoreText, api.CoreExn:
		return 0
	case api.CoreFn, api.CoreField, api.CoreRaise:
		return 1
	case api.CoreApp, api.CoreLet, api.CoreHandle, api.CoreCase:
		return 2
	case api.CoreIf:
		return 3
	case api.CoreRec:
		return len(c.Names) + 1
	case api.CoreSwitch:
		return len(c.Tags) + 2
	case api.CoreBlock:
		return min(len(c.Kids), api.MaxArity)
	case api.CorePrim:
		if p, is := k.primitives[c.Name]; is {
			return p.Many
		}
	}
	return -1
}

// own tells whether what a term says by itself may be.
func (k *checker) own(c *api.Core) bool {
	switch c.Kind {
	case api.CoreVar:
		return k.known[c.Name] > 0
	case api.CoreInt:
		return big.Valid(c.Int)
	case api.CoreSmall, api.CoreBlock:
		return isBelow(c.N, smalls)
	case api.CoreText:
		return len(c.Text) <= api.MaxString
	case api.CoreExn:
		return isBelow(c.N, api.ExnChr+1)
	case api.CoreFn, api.CoreLet, api.CoreHandle:
		return c.Name != ""
	case api.CoreRec:
		return len(c.Names) > 0 && areNames(c.Names) && !slices.ContainsFunc(c.Kids[:len(c.Names)], isNoFunction)
	case api.CoreField:
		return isBelow(c.N, api.MaxArity)
	case api.CoreSwitch:
		return areUnlike(c.Tags) && !slices.ContainsFunc(c.Tags, func(tag int) bool { return !isBelow(tag, smalls) })
	}
	return true
}

func isNoFunction(c api.Core) bool { return c.Kind != api.CoreFn }

func isBelow(n, end int) bool { return n >= 0 && n < end }

// areNames tells whether names may be bound together.
func areNames(l []string) bool { return !slices.Contains(l, "") && areUnlike(l) }

func areUnlike[T cmp.Ordered](l []T) bool {
	sorted := slices.Sorted(slices.Values(l))
	return len(slices.Compact(sorted)) == len(l)
}

// within tells whether the parts of a term may be, which are so deep.
func (k *checker) within(c *api.Core, deep int) bool {
	switch c.Kind {
	case api.CoreFn:
		return k.under(c.Kids, deep, c.Name)
	case api.CoreLet, api.CoreHandle:
		return k.under(c.Kids[:1], deep) && k.under(c.Kids[1:], deep, c.Name)
	case api.CoreRec:
		return k.under(c.Kids, deep, c.Names...)
	}
	for i := range c.Rows {
		if !k.row(&c.Rows[i], deep) {
			return false
		}
	}
	return k.under(c.Kids, deep)
}

// under tells whether terms may be where names are bound.
func (k *checker) under(l []api.Core, deep int, names ...string) bool {
	k.bind(names, 1)
	defer k.bind(names, -1)
	for i := range l {
		if !k.term(&l[i], deep) {
			return false
		}
	}
	return true
}

func (k *checker) bind(names []string, times int) {
	for _, name := range names {
		k.known[name] += times
	}
}

func (k *checker) row(r *api.Row, deep int) bool {
	names, may := k.shape(&r.S, deep, nil)
	if !may || !areUnlike(names) {
		return false
	}
	k.bind(names, 1)
	defer k.bind(names, -1)
	return k.term(&r.E, deep)
}

// shape tells whether a shape may be that is so deep, and its names, behind others.
func (k *checker) shape(s *api.Shape, deep int, names []string) ([]string, bool) {
	if deep > api.MaxTerm || !k.ownShape(s) {
		return nil, false
	}
	if s.Name != "" {
		names = append(names, s.Name)
	}
	may := true
	for i := range s.Kids {
		if names, may = k.shape(&s.Kids[i], deep+1, names); !may {
			return nil, false
		}
	}
	return names, true
}

// ownShape tells whether what a shape says by itself may be.
func (k *checker) ownShape(s *api.Shape) bool {
	kids := len(s.Kids)
	switch s.Kind {
	case api.ShapeAny:
		return kids == 0
	case api.ShapeInt:
		return kids == 0 && big.Valid(s.Int)
	case api.ShapeText:
		return kids == 0 && len(s.Text) <= api.MaxString
	case api.ShapeSmall:
		return kids == 0 && isBelow(s.N, s.Span) && s.Span <= smalls
	case api.ShapeBlock:
		return kids <= api.MaxArity && isBelow(s.N, s.Span) && s.Span <= smalls
	}
	return s.Kind == api.ShapeExn && kids == 1 && k.known[s.Cell] > 0
}
