package data_test

import (
	"math/rand"
	"testing"

	"smithy/api"
	"smithy/big"
	"smithy/data"
)

func whole(n int) api.Atom         { return api.Atom{Kind: api.AtomInt, Int: big.Of(int64(n))} }
func local(v int) api.Atom         { return api.Atom{Kind: api.AtomVar, V: v} }
func real(bits uint64) api.Atom    { return api.Atom{Kind: api.AtomReal, Bits: bits} }
func ret(a api.Atom) api.Flow      { return api.Flow{Kind: api.FlowRet, A: a} }
func tail(f int, l atoms) api.Flow { return api.Flow{Kind: api.FlowTail, F: f, Args: l} }

func let(v int, o api.Op, next api.Flow) api.Flow {
	return api.Flow{Kind: api.FlowLet, V: v, Op: o, Kids: kids{next}}
}

// one is a program of one function, with so many locals.
func one(locals int, body api.Flow) api.Program {
	return api.Program{Funs: []api.Func{{Locals: locals, Body: body}}}
}

// P18.2, P18.3: programs at random, in heaps of two sizes, and with a collector that the test is.
func TestRandom(t *testing.T) {
	const hands = 8
	for hand := range int64(hands) {
		t.Run("", func(t *testing.T) {
			t.Parallel()
			m := &maker{Rand: rand.New(rand.NewSource(hand))}
			kinds := map[[2]int]int{}
			held, stuck, moves := 0, 0, 0
			for i := range 200 {
				m.wrong = []int{0, 0, 400}[i%3]
				p := m.program()
				if !holdIn(t, p, smallWorld(), least, 1<<18) {
					stuck++
					continue
				}
				held++
				if k := keptIn(t, p, smallWorld(), i%2 == 0); k != nil {
					moves += k.calls
				}
				if q := data.InParts(p, 1+i%60); i%4 == 0 {
					holdMade(t, p, q, smallWorld(), least, 1<<17)
					keptMade(t, p, q, smallWorld(), i%8 == 0)
				}
				for _, f := range p.Funs {
					countKinds(&f.Body, kinds)
				}
			}
			t.Log(held, stuck, moves, kinds)
			if held < 150 || moves < 10000 || len(kinds) != 8+9 {
				t.Error(held, stuck, moves, kinds)
			}
		})
	}
}

// The chapter's examples.
func TestExamples(t *testing.T) {
	hold(t, []row{
		{funs{`let 0 = print "a"; ret 0`}, "a; exited 0", 2},
		{funs{`let 0 = div 1 0; ret 0`}, "err uncaught exception Div; exited 1", 1},
	})
	// a function that calls itself: it ends as out of memory, and as a tail it goes on for ever
	p := program(t, `tail f1`, `let 0 = call f1; ret 0`)
	if code, trace := ends(t, made(t, p), least, true, patience); !isFull(code, trace) {
		t.Error(code, trace)
	}
	hold(t, []row{{funs{`tail f1`, `tail f1`}, "running", 0}})
	if _, e := data.Program(api.Program{}); e != api.ErrFlow {
		t.Error(e)
	}
}
