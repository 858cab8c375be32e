package data_test

import (
	"strings"
	"testing"

	"smithy/api"
	"smithy/data"
	"smithy/word"
	"smithy/world"
)

// ends runs a word program to its end in a heap.
func ends(t testing.TB, q api.WordProgram, heap uint64, strict bool, steps int) (code int, trace []api.Event) {
	t.Helper()
	w := world.New(smallWorld())
	s, e := word.New(q, heap, strict, w)
	if e != api.OK {
		t.Fatal(e)
	}
	if st := s.Run(steps); st != api.Exited {
		t.Fatalf("heap %d: %d behind %d steps", heap, st, s.Steps())
	}
	return s.Code(), w.Trace()
}

// isFull tells whether a program has ended for want of memory, having done nothing else.
func isFull(code int, trace []api.Event) bool {
	return code == fullCode && len(trace) == 1 && trace[0] == (api.Event{Kind: api.EventErr, Text: memory})
}

// P18.2: programs that need ever more memory, of each kind, end as out of memory.
func TestFull(t *testing.T) {
	t.Parallel()
	for what, l := range map[string]funs{
		"a list":          {`tail f1 #0`, `1: let 1 = block 0 1 v0; let 1 = block 1 v1; tail f1 v1`},
		"held words":      {`tail f1 1`, `1: let 1 = add v0 1; let 2 = call f1 v1; let 2 = add v2 v0; ret v2`},
		"no held words":   {`tail f1`, `let 0 = call f1; ret 1`},
		"applications":    {`let 0 = closure f1 1; go v0 1`, `2: let 2 = apply v0 v1; ret 1`},
		"calls in a try":  {`tail f1`, `try { tail f1 } catch 0 { ret 1 } then 1; ret v1`},
		"calls in catch":  {`tail f1`, `try { raise 1 } catch 0 { tail f1 } then 1; ret v1`},
		"both in turn":    {`tail f1`, `let 0 = call f2 1; ret v0`, `1: try { let 1 = call f1; ret v1 } catch 1 { ret 1 } then 2; let 3 = block 0 v0 v2; ret v3`},
		"texts":           {`tail f1 #0`, `1: let 1 = str #7; let 1 = block 0 v1 v0; tail f1 v1`},
		"cells":           {`tail f1 #0`, `1: let 1 = ref v0; tail f1 v1`},
		"reals":           {`tail f1 #0`, `1: let 1 = radd %1 %2; let 1 = block 0 v1 v0; tail f1 v1`},
		"integers":        {`tail f1 #0`, `1: let 1 = add 4611686018427387903 1; let 1 = block 0 v1 v0; tail f1 v1`},
		"closures":        {`tail f1 #0`, `1: let 1 = closure f2 v0 2 3; tail f1 v1`, `2: ret 1`},
		"vectors":         {`tail f1 #0`, `1: let 1 = block 0 v0 #0; let 1 = block 1 v1; let 1 = vector v1; tail f1 v1`},
		"what was raised": {`tail f1 #0`, `1: try { raise v0 } catch 1 { let 2 = block 0 1 v1; ret v2 } then 2; tail f1 v2`},
		"patched ones":    {`let 0 = closure f2 #0; tail f1 v0`, `1: let 1 = closure f2 #0; let 2 = patch 0 v1 v0; tail f1 v1`, `2: ret 1`},
		"a cell's":        {`let 0 = ref #0; tail f1 v0`, `1: let 1 = get v0; let 1 = block 0 v1 v1 v1; let 2 = set v0 v1; tail f1 v0`},
		"an exception's":  {`tail f1`, `let 1 = get !3; let 1 = block 0 v1; let 2 = set !3 v1; tail f1`},
		"one great thing": {`let 0 = bnew 65536; tail f1 v0`, `1: tail f1 v0`},
	} {
		p := program(t, l...)
		for i, heap := range []uint64{least, least + 8, 100000, 1 << 18, 1 << 20} {
			if heap > 100000 && what == "one great thing" {
				continue
			}
			for _, q := range []api.WordProgram{made(t, p), data.InParts(p, 5)} {
				if code, trace := ends(t, q, heap, i%2 == 0, patience); !isFull(code, trace) {
					t.Errorf("%s, heap %d: code %d, %v", what, heap, code, trace)
				}
			}
		}
		if !holdIn(t, p, smallWorld(), least, 90000) {
			t.Errorf("%s: is stuck", what)
		}
	}
}

// P18.3: runs that go as deep as steps allow, in heaps of all sizes: they end as they should, or as out of memory.
func TestDeep(t *testing.T) {
	t.Parallel()
	for _, l := range []funs{
		{`let 0 = call f1 900; let 0 = itext v0; let 0 = print v0; ret 1`, `1: let 1 = le v0 0; if v1 { ret 0 } { let 1 = sub v0 1; let 1 = call f1 v1; let 1 = add v0 v1; ret v1 }`},
		{`let 0 = call f1 2000 #0; let 0 = itext v0; let 0 = print v0; ret 1`, `2: let 2 = le v0 0; if v2 { ret 7 } { let 2 = sub v0 1; let 2 = call f1 v2 v1; ret v2 }`},
		{`try { tail f1 3000 } catch 0 { ret v0 } then 0; let 0 = print v0; ret 1`, `1: let 1 = le v0 0; if v1 { raise "deep" } { let 1 = sub v0 1; let 1 = call f1 v1; ret 1 }`},
		{`try { tail f1 1500 } catch 0 { ret v0 } then 0; let 0 = itext v0; let 0 = print v0; ret 1`, `1: let 1 = le v0 0; if v1 { raise 0 } { let 1 = sub v0 1; try { tail f1 v1 } catch 2 { let 2 = add v2 1; raise v2 } then 3; ret 1 }`},
		{`let 0 = closure f1 1; let 1 = apply v0 2500; let 1 = itext v1; let 1 = print v1; ret 1`, `2: let 2 = le v1 0; if v2 { ret 5 } { let 2 = sub v1 1; let 3 = apply v0 v2; ret v3 }`},
		{`let 0 = call f1 2500; ret v0`, `1: let 1 = le v0 0; if v1 { let 1 = print "a"; let 1 = exit 9; ret 1 } { let 1 = sub v0 1; let 1 = call f1 v1; ret 1 }`},
	} {
		p := program(t, l...)
		if run := outcome(t, p, smallWorld()); run.Status != api.Exited {
			t.Fatalf("%s: %s", l, told(run))
		}
		full := 0
		for heap := least; heap <= 1<<23; heap += heap / 5 &^ 7 {
			for i, q := range []api.WordProgram{made(t, p), data.InParts(p, 3)} {
				run := outcome(t, p, smallWorld())
				ended, isFull := process(t, q, smallWorld(), heap, i == 0, run, l[0])
				if !ended {
					t.Errorf("%s, heap %d: does not end", l, heap)
				}
				if isFull {
					full++
					if heap > 1<<22 {
						t.Errorf("%s, heap %d: there is no memory", l, heap)
					}
				}
			}
		}
		if full == 0 {
			t.Errorf("%s: always ends", l)
		}
	}
}

// P18.3: in however great a heap calls are never too many: they end as out of memory.
func TestCallsInOneAnother(t *testing.T) {
	t.Parallel()
	for _, l := range []funs{
		{`tail f1`, `let 0 = call f1; ret 1`},
		{`tail f1`, `try { let 0 = size "a"; try { let 0 = size "b"; tail f1 } catch 0 { ret 1 } then 1; ret 1 } catch 0 { ret 1 } then 1; ret v1`},
	} {
		p := program(t, l...)
		for i, q := range []api.WordProgram{made(t, p), data.InParts(p, 1)} {
			for _, heap := range []uint64{1 << 27, api.MaxHeap}[i:] {
				if code, trace := ends(t, q, heap, false, 1<<26); !isFull(code, trace) {
					t.Errorf("%s, heap %d: code %d, %v", l, heap, code, trace)
				}
			}
		}
	}
}

// P18.2: nothing is ever laid behind the room for held words, however these come to an end: the test's collector sees to it, with each
// number of held words.
func TestRoomOfHeldWords(t *testing.T) {
	t.Parallel()
	many := strings.Repeat(" v1", 40)
	turned := ` v39 v38 v37 v36 v35 v34 v33 v32 v31 v30 v29 v28 v27 v26 v25 v24 v23 v22 v21 v20 v19 v18 v17 v16 v15 v14 v13 v12 v11 v10 v9 v8 v7 v6 v5 v4 v3 v2 v1 v0`
	for _, l := range []funs{
		{`let 0 = bnew 900; let 1 = call f1 12; let 2 = blen v0; let 1 = ref 1; ret v2`, `1: let 1 = le v0 0; if v1 { let 1 = ref 7; tail f2` + many + ` } { let 1 = sub v0 1; let 2 = call f1 v1; let 3 = ref v0; ret v2 }`,
			`40: tail f3` + turned, `40: let 40 = ref v0; let 41 = call f4` + turned + `; let 42 = ref v41; ret v42`, `40: let 40 = ref v0; ret v40`},
		{`let 0 = bnew 900; let 1 = call f1 40; let 2 = blen v0; let 1 = ref 1; ret v2`, `1: let 1 = le v0 0; if v1 { let 1 = ref 7; ret v1 } { let 1 = sub v0 1; let 2 = call f1 v1; let 3 = ref v0; ret v2 }`},
		{`let 0 = bnew 900; let 1 = call f1 40; let 2 = blen v0; let 1 = ref 1; ret v2`, `1: let 2 = call f2; let 1 = le v0 0; if v1 { let 1 = ref 7; ret v1 } { let 1 = sub v0 1; let 3 = ref v0; let 2 = call f1 v1; ret v2 }`, `let 0 = substring "abc" 1 2; let 1 = block 7 v0 v0 v0; ret v1`},
	} {
		p := program(t, l...)
		run := outcome(t, p, smallWorld())
		ended, full := 0, 0
		for _, q := range []api.WordProgram{made(t, p), data.InParts(p, 2)} {
			for held := uint64(64); held < 2600; held += 8 {
				w := world.New(smallWorld())
				k := newKeeper(t, q, w, held, 1<<15, held%16 == 0)
				status := k.run(patience)
				alike, isFull := isAlike(run, status, k.s.Code(), w.Trace())
				if status != api.Exited || !alike {
					t.Fatalf("%d bytes of held words: %d, code %d: %s", held, status, k.s.Code(), l[0])
				}
				k.move() // and whatever was laid last
				if isFull {
					full++
				} else {
					ended++
				}
			}
		}
		if ended < 20 || full < 20 {
			t.Error(ended, full, l[0])
		}
	}
}

// Held words are no more than what is live: deep calls need little room, whatever their functions have done ahead of them.
func TestSmallFrames(t *testing.T) {
	const dead = `let 5 = add v0 1; let 6 = add v5 v0; let 7 = add v6 v5; let 8 = add v7 v6; let 9 = block 2 v8 v7 v6 v5 v0; let 10 = field 0 v9; let 11 = field 1 v9; let 12 = add v10 v11; let 13 = cat "a" "b"; let 14 = size v13; let 15 = add v14 v12; `
	p := program(t, `let 0 = call f1 300; let 0 = itext v0; let 0 = print v0; ret 1`, `1: let 1 = le v0 0; if v1 { ret 0 } { `+dead+`let 1 = sub v0 1; let 1 = call f1 v1; let 1 = add v0 v1; ret v1 }`)
	run := outcome(t, p, smallWorld())
	if ended, full := process(t, made(t, p), smallWorld(), least, true, run, "deep calls"); !ended || full {
		t.Error(ended, full)
	}
}
