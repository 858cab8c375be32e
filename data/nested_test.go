package data_test

import (
	"strconv"
	"testing"

	"smithy/api"
	"smithy/data"
)

// P18.1, P18.2: nodes that are nested as deep as may be, each kind of kid within its like.
func TestNested(t *testing.T) {
	t.Parallel()
	text := func(s string) api.Atom { return api.Atom{Kind: api.AtomText, Text: s} }
	const deep = api.MaxTerm - 5 // with few nodes around it
	for kid := range 3 {
		for _, each := range []int{1, 1000} {
			f := let(1, primOf("print", local(0)), api.Flow{Kind: api.FlowRaise, A: local(0)})
			if kid == 2 {
				f = let(1, primOf("print", local(0)), ret(local(0)))
			}
			for i := range deep {
				all := kids{ret(local(0)), ret(local(0)), ret(local(0))}
				if i%each == 0 {
					all = kids{ret(local(0)), let(1, primOf("cat", local(1), text(strconv.Itoa(i%10))), api.Flow{Kind: api.FlowRaise, A: local(1)}), let(1, primOf("print", local(0)), ret(local(1)))}
				}
				if kid == 1 {
					all[0] = api.Flow{Kind: api.FlowRaise, A: text("r")}
				}
				all[kid] = f
				f = api.Flow{Kind: api.FlowTry, V: 1, W: 2 + i%3, Kids: all}
			}
			holdNested(t, one(5, let(0, primOf("cat", text("a"), text("b")), f)))
		}
	}
	f := ret(local(0))
	for i := range deep {
		switch i % 3 {
		case 0:
			f = let(1, primOf("add", local(0), whole(i)), f)
		case 1:
			f = api.Flow{Kind: api.FlowIf, A: api.Atom{Kind: api.AtomSmall, V: i % 2}, Kids: kids{f, f, f}[:2]}
			f.Kids = kids{f.Kids[0], f.Kids[1]}
			f.Kids[(i+1)%2] = ret(local(0))
		case 2:
			f = api.Flow{Kind: api.FlowSwitch, A: api.Atom{Kind: api.AtomSmall, V: 7}, Tags: []int{7, 3}, Kids: kids{f, ret(local(0)), ret(whole(1))}}
		}
	}
	holdNested(t, one(2, let(0, api.Op{Kind: api.OpAtom, Args: atoms{whole(5)}}, f)))
}

func holdNested(t *testing.T, p api.Program) {
	t.Helper()
	run := outcome(t, p, smallWorld())
	if run.Status == api.Stuck {
		t.Fatal("is stuck")
	}
	for i, q := range []api.WordProgram{made(t, p), data.InParts(p, 500)} {
		if ended, full := process(t, q, smallWorld(), ample, i == 0, run, "nested"); full || run.Status == api.Exited && !ended {
			t.Error(ended, full)
		}
	}
}
