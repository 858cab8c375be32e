package basisrt

import (
	"slices"
	"strings"
	"testing"

	"smithy/api"
	"smithy/prim"
)

// exceptionNames are those of the built-in ones, by their numbers.
func exceptionNames() []string { return strings.Fields("Match Bind Div Subscript Size Io Domain Chr") }

// fails raises a value that nobody handles, and holds what comes of it.
func (b *bench) fails(x any, name string) {
	b.Helper()
	b.push(x)
	b.store(raisedCell, b.heldWord(len(b.stack)-1))
	b.beginCall(0, 0)
	data := b.allData()
	if st := b.enter("fail"); st != api.Exited || b.s.Code() != 1 {
		b.Fatalf("%v: %d, code %d", x, st, b.s.Code())
	}
	b.endCall()
	if !slices.Equal(b.allData(), data) {
		b.Fatal("the data is not what it was")
	}
	b.mirror.Err("uncaught exception " + name + "\n")
	b.worldsAlike("fail")
	if told := b.uncaught(b.stack[len(b.stack)-1]); told != "uncaught exception "+name+"\n" {
		b.Errorf("%v: the interpreters say %s, wanted %s", x, short(told), short(name))
	}
	b.popTo(always)
}

// uncaught is what the interpreters write of a value that is raised.
func (b *bench) uncaught(r api.Ref) string {
	c := chapter{b, map[int64]prim.Value{}, map[prim.Value]int64{}}
	value := c.value(r, 'v')
	out := prim.New(api.World{}, 1).Outcome(func() { prim.Raise(value) })
	if out.Status != api.Exited || out.Code != 1 || len(out.Trace) != 1 {
		b.Fatal(out)
	}
	return out.Trace[0].Text
}

// nameExceptions sets the words of the cells of exceptions to their names.
func (b *bench) nameExceptions() {
	for i, name := range exceptionNames() {
		b.push(name)
		b.setException(i, len(b.stack)-1)
		b.popTo(always)
	}
}

// The chapter's example, and all built-in exceptions, with and without a value.
func TestFail(t *testing.T) {
	both(t, func(b *bench) {
		b.nameExceptions()
		for i, name := range exceptionNames() {
			for _, x := range []any{0, 5, "value", tuple(exn(i), 1), exn((i + 1) % 8), 2.5} {
				b.fails(tuple(exn(i), x), name)
			}
			b.fails(tuple(exn(i)), name)
			b.fails(block{7, v{exn(i), 0}}, name)
		}
	})
}

// Exceptions of a program's own, whatever their names are.
func TestFailOwn(t *testing.T) {
	both(t, func(b *bench) {
		for _, name := range []string{"E", "", "\n", "seven77", "eight888", "a\x00b", "?", strings.Repeat("n", 64), some(2000), some(api.MaxString)} {
			b.fails(tuple(ref{name}, 0), name)
			b.fails(tuple(ref{name}, "more", 3), name)
		}
		b.fails(tuple(far(farCell), 0), "outside")
	})
}

// P17.2: other values are raised, too, which have no name.
func TestFailUnnamed(t *testing.T) {
	both(t, func(b *bench) {
		b.nameExceptions()
		for _, x := range []any{0, 1, -1, 1<<62 - 1, "text", power2(70), 2.5, bytes("x"), unit{}, block{0, nil}, block{9, nil}, vec{exn(1), 0}, exn(1), ref{"text"}, closed{exn(1)}, tuple(0, exn(1)), tuple("text", 0),
			tuple(unit{}, 0), tuple(tuple(exn(1), 0), 0), tuple(vec{"x"}, 0), tuple(bytes("x"), 0), tuple(2.5), tuple(power2(80)), tuple(closed{"x"}), tuple(ref{0}, 0), tuple(ref{bytes("x")}, 0), tuple(ref{ref{"x"}}, 0), tuple(ref{2.5}), tuple(ref{tuple("x")}),
			tuple(ref{vec{"x"}}), tuple(ref{huge("12345678901234567890")}), tuple(ref{closed{}}), far(farBlock), far(farUnit), at(6)} {
			b.fails(x, "?")
		}
	})
}

// What was written ahead of it stays, and goes on in one event.
func TestFailBehindOthers(t *testing.T) {
	both(t, func(b *bench) {
		b.nameExceptions()
		b.rows(row{"print", v{"out"}, "<0: >"}, row{"eprint", v{"err "}, "<0: >"})
		b.fails(tuple(exn(api.ExnDiv), 0), "Div")
		if l := b.w.Trace(); len(l) != 2 || l[1].Text != "err uncaught exception Div\n" {
			b.Error(l)
		}
	})
}

// What functions raise is what fail tells.
func TestFailOfRaised(t *testing.T) {
	t.Parallel()
	for i, r := range []struct {
		call row
		name string
	}{{row{"substring", v{"abc", 2, 2}, ""}, "Subscript"}, {row{"bnew", v{-1}, ""}, "Size"}, {row{"readfile", v{"none"}, ""}, "Io"}, {row{"chr", v{256}, ""}, "Chr"}} {
		b := newKept(t, 1, i%2 == 0)
		b.nameExceptions()
		p, _ := b.hand(r.call.args)
		b.beginCall(p, 0)
		if x := b.run("do."+r.call.name, p); x != 0 {
			t.Error(r.name, x)
		}
		if st := b.enter("fail"); st != api.Exited || b.s.Code() != 1 {
			t.Error(r.name, st)
		}
		if l := b.w.Trace(); len(l) != 1 || l[0] != (api.Event{Kind: api.EventErr, Text: "uncaught exception " + r.name + "\n"}) {
			t.Error(l)
		}
	}
}
