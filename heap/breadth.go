package heap

import (
	"slices"

	"smithy/api"
)

// row is what was met, in order; each has its place there as its number.
type row[K comparable] struct {
	met     []K
	numbers map[K]int64
}

func newRow[K comparable]() *row[K] { return &row[K]{numbers: map[K]int64{}} }

// meet is the value that a thing is behind numbering.
func (r *row[K]) meet(k K) api.Ref {
	n, was := r.numbers[k]
	if !was {
		n = int64(len(r.met))
		r.numbers[k] = n
		r.met = append(r.met, k)
	}
	return api.Ref{Kind: api.RefThing, N: n}
}

// reached is the graph of what the roots of one that may be reach.
func reached(g api.Graph) api.Graph {
	r := newRow[int64]()
	c := api.Graph{Roots: renamed(g.Roots, r)}
	for i := 0; i < len(r.met); i++ { // the row grows meanwhile
		t := g.Things[r.met[i]]
		t.Refs = renamed(t.Refs, r)
		c.Things = append(c.Things, t)
	}
	return c
}

func renamed(l []api.Ref, r *row[int64]) []api.Ref {
	out := roomOf[api.Ref](len(l))
	for _, v := range l {
		if v.Kind == api.RefThing {
			v = r.meet(v.N)
		}
		out = append(out, v)
	}
	return out
}

func equal(g, h api.Graph) bool {
	return slices.Equal(g.Roots, h.Roots) && slices.EqualFunc(g.Things, h.Things, equalThings)
}

func equalThings(t, u api.Thing) bool {
	return t.Kind == u.Kind && t.Tag == u.Tag && t.Bytes == u.Bytes && slices.Equal(t.Refs, u.Refs)
}
