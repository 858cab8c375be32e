package close_test

import (
	"runtime"
	"slices"
	"strconv"
	"testing"

	"smithy/api"
	"smithy/close"
	"smithy/core"
	"smithy/flow"
)

// lets are lets of some cells about a term; the i-th one is named x and i.
func lets(many int, c api.Core) api.Core {
	for i := range many {
		c = node(api.CoreLet, "x"+strconv.Itoa(many-1-i), prims("ref", whole(many-1-i)), c)
	}
	return c
}

// uses is a term that uses each of these cells.
func uses(many int) api.Core {
	all := tagged(0)
	for from := 0; from < many; from += 1000 {
		row := tagged(0)
		for i := from; i < min(from+1000, many); i++ {
			row.Kids = append(row.Kids, name("x"+strconv.Itoa(i)))
		}
		all.Kids = append(all.Kids, row)
	}
	return all
}

// last is a term that prints what the last cell has, behind others.
func last(many int) api.Core {
	return node(api.CoreLet, "u", uses(many), prims("print", prims("itext", prims("get", name("x"+strconv.Itoa(many-1))))))
}

// P11.1: a function captures MaxArity values, and no more; wherever it stands, and by whatever names.
func TestCaptures(t *testing.T) {
	apply := func(f api.Core) api.Core { return node(api.CoreApp, "", f, small(0)) }
	unknown := func(f api.Core) api.Core { return apply(prims("get", prims("ref", f))) }
	for what, about := range map[string]func(c api.Core) api.Core{
		"a function":                func(c api.Core) api.Core { return unknown(fn("n", c)) },
		"a function that is known":  func(c api.Core) api.Core { return node(api.CoreLet, "f", fn("n", c), apply(name("f"))) },
		"a function within another": func(c api.Core) api.Core { return unknown(fn("n", unknown(fn("m", c)))) },
		"a function of a rec": func(c api.Core) api.Core {
			return api.Core{Kind: api.CoreRec, Names: []string{"f"}, Kids: []api.Core{fn("n", c), apply(name("f"))}}
		},
		"a function that calls itself": func(c api.Core) api.Core {
			return api.Core{Kind: api.CoreRec, Names: []string{"f"}, Kids: []api.Core{fn("n", node(api.CoreIf, "", name("n"), apply(name("f")), c)), node(api.CoreApp, "", name("f"), small(1))}}
		},
	} {
		c := lets(api.MaxArity, about(last(api.MaxArity)))
		if got := told(alike(t, c, made(t, c), worlds()[0], 0, api.MaxFuel)); got != "1023" {
			t.Errorf("%s: %s", what, got)
		}
		c = lets(api.MaxArity+1, about(last(api.MaxArity+1)))
		if core.Check(c) != api.OK {
			t.Errorf("%s: may not be", what)
		}
		refused(t, what, c)
		c = lets(api.MaxArity+1, about(last(api.MaxArity)))
		if got := told(alike(t, c, made(t, c), worlds()[0], 0, api.MaxFuel)); got != "1023" {
			t.Errorf("%s: %s", what, got)
		}
	}
	c := lets(api.MaxArity+200, last(api.MaxArity+200))
	if got := told(alike(t, c, made(t, c), worlds()[0], 0, api.MaxFuel)); got != "1223" {
		t.Error(got)
	}
	names := tagged(0)
	for range 2000 / 8 {
		names.Kids = append(names.Kids, tagged(0, slices.Repeat([]api.Core{name("x0")}, 8)...))
	}
	made(t, lets(1, unknown(fn("n", names))))
}

// nodes is how many functions and nodes a program has, and how deep these are.
func nodes(p api.Program) (many, most int) {
	var look func(f *api.Flow, deep int)
	look = func(f *api.Flow, deep int) {
		many, most = many+1, max(most, deep)
		for i := range f.Kids {
			look(&f.Kids[i], deep+1)
		}
	}
	for i := range p.Funs {
		many++
		look(&p.Funs[i].Body, 1)
	}
	return many, most
}

// padded is a term with so many blocks ahead of it, each a node of its flow.
func padded(many int, c api.Core) api.Core {
	for many > 0 {
		row := tagged(0)
		for ; many > 1 && len(row.Kids) < 1000; many-- {
			row.Kids = append(row.Kids, tagged(0))
		}
		c, many = node(api.CoreLet, "u", row, c), many-1
	}
	return c
}

// P11.1: flow is at most MaxTerm deep, and has at most MaxCode nodes and functions; up to that nothing is refused.
func TestTooGreat(t *testing.T) {
	chain := lets(100, api.Core{})
	inner := &chain
	for inner.Kind == api.CoreLet {
		inner = &inner.Kids[1]
	}
	*inner = uses(100)
	for range 1900 {
		*inner = fn("n", *inner)
	}
	choice := node(api.CoreIf, "", small(0), small(1), small(1))
	wide := api.Core{Kind: api.CoreSwitch, Kids: []api.Core{small(0)}}
	for i := range 10 {
		row := slices.Repeat([]api.Core{tagged(0, slices.Repeat([]api.Core{choice}, 975)...)}, 4)
		wide.Tags, wide.Kids = append(wide.Tags, i), append(wide.Kids, tagged(0, row...))
	}
	wide.Kids = append(wide.Kids, small(0))
	rec := api.Core{Kind: api.CoreRec}
	for i := range 90 {
		rec.Names = append(rec.Names, "x"+strconv.Itoa(i))
		rec.Kids = append(rec.Kids, fn("n", uses(90)))
	}
	rec.Kids = append(rec.Kids, small(0))
	for what, about := range map[string]func(n int) api.Core{
		"a row of nodes":            func(n int) api.Core { return padded(n, small(0)) },
		"a row in a function":       func(n int) api.Core { return prims("ref", fn("n", padded(n, small(0)))) },
		"a row in a try":            func(n int) api.Core { return tagged(0, node(api.CoreIf, "", small(0), padded(n, small(0)), small(1))) },
		"a row behind a try":        func(n int) api.Core { return tagged(0, choice, padded(n, small(0))) },
		"a row in a branch":         func(n int) api.Core { return node(api.CoreIf, "", small(0), small(1), padded(n, small(0))) },
		"a row in a handler":        func(n int) api.Core { return node(api.CoreHandle, "x", small(0), padded(n, small(0))) },
		"a row behind functions":    func(n int) api.Core { return tagged(0, rec, padded(n, small(0))) },
		"functions in one another":  func(n int) api.Core { return padded(n, chain) },
		"a switch of many branches": func(n int) api.Core { return padded(n, wide) },
	} {
		t.Run(what, func(t *testing.T) {
			t.Parallel()
			most := greatest(t, about)
			many, deep := nodes(made(t, about(most)))
			if many != api.MaxCode && deep != api.MaxTerm {
				t.Errorf("refused behind %d nodes, %d deep", many, deep)
			}
			refused(t, "one more", about(most+1))
		})
	}
}

// greatest is the greatest number of which a term is not refused.
func greatest(t *testing.T, about func(n int) api.Core) int {
	t.Helper()
	low, high := 0, api.MaxTerm+1
	for low+1 < high {
		middle := (low + high) / 2
		c := about(middle)
		if core.Check(c) != api.OK {
			t.Fatal("a term that may not be")
		}
		if _, e := close.Flow(c); e == api.OK {
			low = middle
		} else {
			high = middle
		}
	}
	return low
}

// Terms as great as may be come to an answer, and soon: it is refused, or may be.
func TestGreatTerms(t *testing.T) {
	about := func(many int, c api.Core, one func(i int, c api.Core) api.Core) api.Core {
		for i := range many {
			c = one(i, c)
		}
		return c
	}
	x := func(i int) string { return "x" + strconv.Itoa(i) }
	most := api.MaxTerm - 2
	row := tagged(0)
	for range 195 {
		row.Kids = append(row.Kids, tagged(0, slices.Repeat([]api.Core{small(0)}, 1000)...))
	}
	names := tagged(0)
	for i := range 9000 {
		if i%1000 == 0 {
			names.Kids = append(names.Kids, tagged(0))
		}
		end := &names.Kids[len(names.Kids)-1]
		end.Kids = append(end.Kids, name(x(i)))
	}
	rec := api.Core{Kind: api.CoreRec}
	for i := range 20000 {
		rec.Names = append(rec.Names, x(i))
		rec.Kids = append(rec.Kids, fn("n", tagged(0, name(x((i+1)%20000)), name(x((i+7)%20000)))))
	}
	rec.Kids = append(rec.Kids, small(0))
	wide := slices.Repeat([]api.Core{fn("n", name("f"))}, 1000)
	never := about(210, uses(1000), func(i int, c api.Core) api.Core { return fn("n", c) })
	never = node(api.CoreHandle, "x", tagged(0, node(api.CoreRaise, "", small(0)), never), small(0))
	behind := node(api.CoreApp, "", prims("get", prims("ref", fn("n", last(1000)))), small(0))
	for what, c := range map[string]api.Core{
		"functions that capture all": about(9000, names, func(i int, c api.Core) api.Core { return fn(x(i), c) }),
		"functions that capture one": about(most-2, name(x(most-3)), func(i int, c api.Core) api.Core { return fn(x(i), c) }),
		"lets of names":              about(most, name(x(0)), func(i int, c api.Core) api.Core { return node(api.CoreLet, x(i), name(x(i+1)), c) }),
		"lets in lets":               about(most, small(0), func(i int, c api.Core) api.Core { return node(api.CoreLet, "x", c, small(0)) }),
		"lets behind lets":           about(most, small(0), func(i int, c api.Core) api.Core { return node(api.CoreLet, "x", small(0), c) }),
		"applications":               about(most, small(0), func(i int, c api.Core) api.Core { return node(api.CoreApp, "", c, small(0)) }),
		"arguments":                  about(most, small(0), func(i int, c api.Core) api.Core { return node(api.CoreApp, "", small(0), c) }),
		"functions that are applied": about(most/2, small(0), func(i int, c api.Core) api.Core { return node(api.CoreApp, "", fn("x", c), small(0)) }),
		"blocks": about(most, small(0), func(i int, c api.Core) api.Core {
			return tagged(0, append(slices.Repeat([]api.Core{small(0)}, 18), c)...)
		}),
		"blocks that begin deep": about(most, small(0), func(i int, c api.Core) api.Core {
			return tagged(0, append([]api.Core{c}, slices.Repeat([]api.Core{small(0)}, 18)...)...)
		}),
		"conditions that are last": about(most, small(0), func(i int, c api.Core) api.Core { return node(api.CoreIf, "", small(0), c, small(0)) }),
		"conditions of conditions": about(most, small(0), func(i int, c api.Core) api.Core { return node(api.CoreIf, "", c, small(0), small(0)) }),
		"conditions that go on":    about(most/2, small(0), func(i int, c api.Core) api.Core { return tagged(0, node(api.CoreIf, "", small(0), c, small(0))) }),
		"switches": about(most, small(0), func(i int, c api.Core) api.Core {
			return api.Core{Kind: api.CoreSwitch, Tags: []int{3}, Kids: []api.Core{c, c2(i), small(0)}}
		}),
		"handlers":             about(most, small(0), func(i int, c api.Core) api.Core { return node(api.CoreHandle, "x", c, small(0)) }),
		"handlers in handlers": about(most, small(0), func(i int, c api.Core) api.Core { return node(api.CoreHandle, "x", small(0), c) }),
		"raises":               about(most, small(0), func(i int, c api.Core) api.Core { return node(api.CoreRaise, "", c) }),
		"recs": about(most/2, small(0), func(i int, c api.Core) api.Core {
			return api.Core{Kind: api.CoreRec, Names: []string{"f"}, Kids: []api.Core{fn("x", name("f")), c}}
		}),
		"recs in recs": about(most/2, small(0), func(i int, c api.Core) api.Core {
			return api.Core{Kind: api.CoreRec, Names: []string{"f"}, Kids: []api.Core{fn("x", c), name("f")}}
		}),
		"functions that know each other":   rec,
		"much that is never reached":       lets(1000, tagged(0, never, behind)),
		"a wide row":                       row,
		"a long row":                       tagged(0, slices.Repeat([]api.Core{tagged(0, slices.Repeat([]api.Core{tagged(0)}, 1000)...)}, 195)...),
		"a wide row of functions":          node(api.CoreLet, "f", small(0), tagged(0, tagged(0, wide...), tagged(0, wide...), tagged(0, wide...))),
		"a function that captures nothing": fn("x", row),
	} {
		if what == "lets of names" {
			c = node(api.CoreLet, x(most), small(0), c)
		}
		if e := core.Check(c); e != api.OK {
			t.Fatalf("%s: %v, %d nodes", what, e, core.Size(c))
		}
		var before, behind runtime.MemStats
		runtime.ReadMemStats(&before)
		p, e := close.Flow(c)
		if runtime.ReadMemStats(&behind); behind.TotalAlloc-before.TotalAlloc > 500<<20 {
			t.Errorf("%s: %d bytes are taken", what, behind.TotalAlloc-before.TotalAlloc)
		}
		switch {
		case e == api.ErrCore:
			refused(t, what, c)
		case e != api.OK || flow.Check(p) != api.OK:
			t.Errorf("%s: %v", what, e)
		default:
			term, flows := runsOf(c, p, worlds()[0])
			a, _ := term(api.MaxFuel)
			if b, _ := flows(api.MaxFuel); a.Status != api.Stuck && !areAlike(a, b) {
				t.Errorf("%s: %s, in flow %s", what, told(a), told(b))
			}
		}
	}
}

// c2 is a function, or none.
func c2(i int) api.Core {
	if i%2 == 0 {
		return fn("x", small(i))
	}
	return small(i)
}
