package core_test

import (
	"math"
	"reflect"
	"strconv"
	"sync"
	"testing"

	"smithy/api"
	"smithy/core"
)

// everything is a term with all that there is.
const everything = `(let e (ref "E") (rec (f (fn n (if (le n 0) [1 n "end"] (f (sub n 1))))) (g (fn n (switch (f n) 0: (raise n) 1: (field 1 (f n)) "none")))
  (let u (print (handle (cat (g 3) (inputline 0)) x (raise x)))
    (let u (writefile "g" (readfile "f"))
      (let c (ref ~123456789012345678901234567890) (let u (set c (add (get c) 1))
        (handle (raise [0 e [2 (get c) #3 %2.5]]) x
          (case x (| {e [2/3 7 _ _]} 0) (| y@ {e [2/3 ~123456789012345678901234567889 z@ #3/4 w]} (let u (print (itext (rfloor w))) (exit (add 2 (ord z))))) (eprint "none"))))))))) `

func theTerm(t testing.TB) api.Core {
	c := term(t, everything)
	if e := core.Check(c); e != api.OK {
		t.Fatal(e)
	}
	return c
}

func TestEverything(t *testing.T) {
	if got := told(run(t, theTerm(t), 500)); got != "endone\n; file g data; 2; exited 5" {
		t.Error(got)
	}
	if core.Plain(theTerm(t)) || core.Size(theTerm(t)) != 89 {
		t.Error(core.Size(theTerm(t)))
	}
}

// R3: what is handed in is not written; what is answered shares no memory with it, or with another answer.
func TestOwnMemory(t *testing.T) {
	c, kept, w := theTerm(t), theTerm(t), theWorld()
	first, _ := core.Run(c, w, 500)
	for fuel := range 100 {
		core.Run(c, w, fuel)
	}
	second, _ := core.Run(c, w, 500)
	if !reflect.DeepEqual(c, kept) || !reflect.DeepEqual(w, theWorld()) {
		t.Error("what was handed in was written")
	}
	if !reflect.DeepEqual(first, second) {
		t.Errorf("%+v and then %+v", first, second)
	}
	for i := range second.Trace {
		second.Trace[i] = api.Event{}
	}
	for i := range w.Files {
		w.Files[i] = api.File{}
	}
	third, _ := core.Run(c, theWorld(), 500)
	if !reflect.DeepEqual(first, third) {
		t.Errorf("%+v and then %+v", first, third)
	}
}

// R3: an empty list is a nil one; R2: with an error the outcome is the zero one.
func TestEmpty(t *testing.T) {
	for _, text := range []string{`1`, `(print "")`, `(exit 3)`, `(1 2)`, `(eprint "")`} {
		if out, e := core.Run(term(t, text), api.World{Files: []api.File{}}, 100); e != api.OK || out.Trace != nil {
			t.Errorf("%s: %#v", text, out.Trace)
		}
	}
	if out, e := core.Run(term(t, `(print "a")`), theWorld(), api.MaxFuel+1); e != api.ErrArg || !reflect.DeepEqual(out, api.Outcome{}) {
		t.Errorf("%+v, %v", out, e)
	}
}

// R4: calls from several hands at the same time.
func TestManyHands(t *testing.T) {
	want := run(t, theTerm(t), 500)
	var hands sync.WaitGroup
	for range 8 {
		c := theTerm(t)
		hands.Go(func() {
			for range 20 {
				if out, e := core.Run(c, theWorld(), 500); e != api.OK || !reflect.DeepEqual(out, want) {
					t.Errorf("%+v, %v", out, e)
				}
				if core.Check(c) != api.OK || core.Size(c) != 89 || core.Plain(c) {
					t.Error("another answer")
				}
			}
		})
	}
	hands.Wait()
}

// R1: terms that hold themselves, or that share their parts without end, are refused.
func TestRings(t *testing.T) {
	rings := map[string]api.Core{"nothing": {}}
	for kind := range 20 {
		one := make(kids, 1)
		one[0] = api.Core{Kind: kind, Name: "x", Names: []string{"f"}, Tags: []int{1}, Kids: one}
		rings["one of kind "+strconv.Itoa(kind)] = one[0]
		for many := 2; many < 4; many++ {
			row := make(kids, many)
			for i := range row {
				row[i] = api.Core{Kind: kind, Name: "x", Names: []string{"f", "g"}[:many-1], Tags: []int{1, 2}[:many-2], Kids: row}
			}
			rings[strconv.Itoa(many)+" of kind "+strconv.Itoa(kind)] = row[0]
		}
		rows := make([]api.Row, 2)
		for i := range rows {
			rows[i] = api.Row{S: api.Shape{Kind: api.ShapeAny}, E: api.Core{Kind: kind, Kids: kids{{Kind: api.CoreInt}, {Kind: api.CoreInt}}, Rows: rows}}
		}
		rings["rows of kind "+strconv.Itoa(kind)] = rows[0].E
		shared := make(shapes, 2)
		for i := range shared {
			shared[i] = api.Shape{Kind: kind, Span: 1, Kids: shared}
		}
		rings["shapes of kind "+strconv.Itoa(kind)] = caseOf(shared[0], whole(1))
	}
	twice, shape := whole(1), anyShape()
	for range 100 {
		twice = tagged(0, twice, twice)
		shape = api.Shape{Kind: api.ShapeBlock, Span: 1, Kids: shapes{shape, shape}}
	}
	rings["shared terms"], rings["shared shapes"] = twice, caseOf(shape, whole(1))
	for what, c := range rings {
		if e := core.Check(c); e != api.ErrCore {
			t.Errorf("%s: %v", what, e)
		}
		if out, e := core.Run(c, theWorld(), 100); e != api.ErrCore || !reflect.DeepEqual(out, api.Outcome{}) {
			t.Errorf("%s: %+v, %v", what, out, e)
		}
		if n := core.Size(c); what != "nothing" && n != api.MaxCode+1 {
			t.Errorf("%s: %d", what, n)
		}
		core.Plain(c)
	}
	if !core.Plain(twice) || core.Plain(rings["one of kind 18"]) || !core.Plain(rings["3 of kind 13"]) {
		t.Error("plain terms that share")
	}
}

// R1: arguments of any form.
func TestOdd(t *testing.T) {
	for _, n := range []int{math.MinInt, -1, 0, 1, 7, 1 << 30, math.MaxInt} {
		for kind := -1; kind < 22; kind++ {
			for _, l := range []kids{nil, {}, {{}}, {{Kind: kind, N: n}, {Kind: kind}}, {whole(1), whole(2), whole(3)}} {
				for _, s := range []api.Shape{{}, {Kind: kind, N: n, Span: n}, {Kind: kind, Kids: shapes{{}, {}}, Cell: "x"}} {
					c := api.Core{Kind: kind, Name: "x", Names: []string{"", "x"}, N: n, Int: api.Int{Neg: true, Mag: []uint32{0}}, Bits: math.MaxUint64, Tags: []int{n, n}, Kids: l, Rows: []api.Row{{S: s, E: api.Core{Kind: kind}}}}
					if core.Check(c) != api.ErrCore {
						t.Errorf("%+v", c)
					}
					if out, e := core.Run(c, api.World{Files: []api.File{{}, {}}}, n); e != api.ErrCore || !reflect.DeepEqual(out, api.Outcome{}) {
						t.Errorf("%+v: %+v, %v", c, out, e)
					}
					core.Size(c)
					core.Plain(c)
				}
			}
		}
	}
}

// What is as deep and as great as may be is done, too.
func TestGreat(t *testing.T) {
	deep := api.Core{Kind: api.CorePrim, Name: "print", Kids: kids{{Kind: api.CoreText, Text: "a"}}}
	for i := range api.MaxTerm - 2 {
		switch i % 4 {
		case 0:
			deep = node(api.CoreLet, "x", whole(1), deep)
		case 1:
			deep = node(api.CoreHandle, "x", deep, node(api.CoreRaise, "", name("x")))
		case 2:
			deep = caseOf(anyShape(), deep)
		case 3:
			deep = tagged(0, deep)
		}
	}
	if out := runIn(t, deep, smallWorld(), api.MaxFuel); told(out) != "a; exited 0" {
		t.Error(told(out))
	}
	for _, text := range []string{
		`(rec (f (fn x (add 1 (f x)))) (f 0))`, `(rec (f (fn x (handle (f x) y y))) (f 0))`, `(rec (f (fn x (handle (f x) y (raise y)))) (f 0))`, `(rec (f (fn x (case (f x) (| _ 1) 0))) (f 0))`, `(rec (f (fn x (f [0 x x]))) (f 0))`, `(rec (f (fn x (f (fn y (x y))))) (f 0))`,
		`(rec (f (fn x (if (eq x x) (f [0 x x]) 0))) (f 0))`, `(let c (ref 0) (rec (f (fn x (let u (set c c) (f x)))) (f 0)))`,
	} {
		if out := runIn(t, term(t, text), smallWorld(), api.MaxFuel); told(out) != "running" {
			t.Errorf("%s: %s", text, told(out))
		}
	}
	if out := runIn(t, term(t, `(rec (f (fn n (handle (if (le n 0) (raise "end") (f (sub n 1))) x (raise x)))) (handle (f 1000) x (print x)))`), smallWorld(), api.MaxFuel); told(out) != "end; exited 0" {
		t.Error(told(out))
	}
}

// A term with many names, rows and functions takes no longer than it must.
func TestManyNames(t *testing.T) {
	many := api.Core{Kind: api.CoreRec}
	for i := range 60000 {
		many.Names, many.Kids = append(many.Names, "f"+strconv.Itoa(i)), append(many.Kids, fn("x", whole(1)))
	}
	many.Names, many.Kids = append(many.Names, "g"), append(many.Kids, fn("x", node(api.CoreApp, "", name("g"), name("x"))))
	many.Kids = append(many.Kids, node(api.CoreApp, "", name("loop"), whole(1)))
	loop := api.Core{Kind: api.CoreRec, Names: []string{"loop"}, Kids: kids{fn("x", many), node(api.CoreApp, "", name("loop"), whole(1))}}
	if out := runIn(t, loop, smallWorld(), api.MaxFuel); told(out) != "running" {
		t.Error(told(out))
	}
}
