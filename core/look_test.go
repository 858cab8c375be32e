package core_test

import (
	"slices"
	"testing"

	"smithy/api"
	"smithy/core"
)

// P7.2: how many terms and shapes, itself too.
func TestSize(t *testing.T) {
	for text, want := range map[string]int{
		`1`: 1, `x`: 1, `(fn x x)`: 2, `(add 1 2)`: 3, `[0 1 [1 2] 3]`: 5, `(rec (f (fn x (f x))) (g (fn x x)) (f 1))`: 10, `(switch 1 2: 3 4: (print 5) 6)`: 6,
		`(case 1 2)`: 3, `(case 1 (| _ 2) 3)`: 5, `(case 1 (| [0/1 _ 2 [0/1]] (print "a")) (| x x) 3)`: 11, `(let e 1 (case 1 (| {e [0/1 x]} (case 2 (| _ 3) 4)) 5))`: 13,
	} {
		if got := core.Size(term(t, text)); got != want {
			t.Errorf("%s: %d, not %d", text, got, want)
		}
	}
	raw := api.Core{Kind: 99, Kids: kids{{}, {Rows: []api.Row{{}, {S: api.Shape{Kids: shapes{{}, {}}}}}}}}
	if got := core.Size(raw); got != 9 {
		t.Errorf("%d", got)
	}
	for deep, want := range map[int]int{100: 100, api.MaxTerm + 100: api.MaxTerm + 100, api.MaxCode: api.MaxCode, api.MaxCode + 1: api.MaxCode + 1, 2 * api.MaxCode: api.MaxCode + 1} {
		if got := core.Size(nest(deep-1, whole(1))); got != want {
			t.Errorf("%d deep: %d", deep, got)
		}
		if got := core.Size(caseOf(nestShapes(deep-5, anyShape()), whole(1))); got != want {
			t.Errorf("shapes %d deep: %d", deep, got)
		}
	}
}

// P7.2: a case at every place where a term may stand.
func TestPlain(t *testing.T) {
	for _, text := range []string{
		`1`, `#1`, `%1`, `"a"`, `!1`, `(fn x x)`, `(1 2)`, `(let x 1 2)`, `(rec (f (fn x 1)) (g (fn x 2)) 3)`, `[0 1 2]`, `(field 0 1)`, `(if 1 2 3)`, `(switch 1 2: 3 4: 5 6)`, `(raise 1)`, `(handle 1 x 2)`, `(substring 1 2 3)`, `(print (handle (1 [0 1 (let x 1 x)]) x x))`,
	} {
		c := term(t, text)
		if !core.Plain(c) {
			t.Errorf("%s is not plain", text)
		}
		for i := range c.Kids {
			with := c
			with.Kids = slices.Clone(c.Kids)
			for _, in := range []string{`(case 1 2)`, `(case 1 (| _ 2) 3)`, `(print [0 1 (case 1 2) 3])`, `(fn x (case 1 2))`} {
				with.Kids[i] = term(t, in)
				if core.Plain(with) {
					t.Errorf("%s is plain, with %s at %d", text, in, i)
				}
			}
		}
	}
	for _, text := range []string{`(case 1 2)`, `(case 1 (| _ 2) 3)`, `(case (case 1 2) (| _ (case 1 2)) (case 1 2))`} {
		if core.Plain(term(t, text)) {
			t.Errorf("%s is plain", text)
		}
	}
}

// P7.2: Plain is told of terms that may not be, however great.
func TestPlainRaw(t *testing.T) {
	inner := term(t, `(case 1 2)`)
	for _, deep := range []int{0, 10, api.MaxTerm + 5, 5 * api.MaxCode} {
		if core.Plain(nest(deep, inner)) || !core.Plain(nest(deep, whole(1))) {
			t.Errorf("%d deep", deep)
		}
	}
	for _, many := range []int{1000, 3 * api.MaxCode} {
		c := wide(many)
		plain := core.Plain(c)
		last := &c.Kids[len(c.Kids)-1]
		last.Kids = append(slices.Clone(last.Kids), inner)
		if !plain || core.Plain(c) {
			t.Errorf("%d wide", many)
		}
	}
	// the terms of Rows are set aside
	for kind := range 30 {
		c := api.Core{Kind: kind, Kids: kids{{Kind: kind, Rows: []api.Row{{E: inner}}}}, Rows: []api.Row{{E: inner}}}
		if core.Plain(c) != (kind != api.CoreCase) {
			t.Errorf("kind %d", kind)
		}
	}
	// terms that share their kids, more of them or fewer
	row := kids{whole(1), whole(2), inner}
	if c := (api.Core{Kind: api.CoreBlock, Kids: kids{{Kind: api.CoreBlock, Kids: row[:1]}, {Kind: api.CoreBlock, Kids: row[:2]}}}); !core.Plain(c) {
		t.Error("the first two are plain")
	}
	for _, c := range []api.Core{
		{Kind: api.CoreBlock, Kids: kids{{Kind: api.CoreBlock, Kids: row[:1]}, {Kind: api.CoreBlock, Kids: row}}},
		{Kind: api.CoreBlock, Kids: kids{{Kind: api.CoreBlock, Kids: row}, {Kind: api.CoreBlock, Kids: row[:2]}}},
		{Kind: api.CoreBlock, Kids: kids{{Kind: api.CoreBlock, Kids: row[:2]}, {Kind: api.CoreBlock, Kids: row[1:]}}},
	} {
		if core.Plain(c) {
			t.Errorf("%v", c)
		}
	}
}
