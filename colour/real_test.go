package colour

import (
	"slices"
	"testing"

	"smithy/api"
	"smithy/basisrt"
	"smithy/close"
	"smithy/data"
	"smithy/elab"
	"smithy/match"
	"smithy/opt"
	"smithy/syntax"
	"smithy/types"
)

// wordsOf is a program's text as words.
func wordsOf(t testing.TB, text string) api.WordProgram {
	t.Helper()
	l, mishap := syntax.Parse(text)
	fine := func(e api.Errno) {
		if e != api.OK {
			t.Fatalf("%v: %s", e, text)
		}
	}
	fine(mishap.Code)
	l, _, e := types.Infer(l)
	fine(e)
	c, e := elab.Core(l)
	fine(e)
	c, _, e = match.Switches(c)
	fine(e)
	p, e := close.Flow(c)
	fine(e)
	p, e = opt.Opt(p)
	fine(e)
	q, e := data.Program(p)
	fine(e)
	return q
}

func texts() []string {
	return []string{
		``,
		`fun f n = if n = 0 then 1 else n * f (n - 1) val _ = print (Int.toString (f 250))`,
		`fun fib n = if n < 2 then n else fib (n - 1) + fib (n - 2) val _ = print (Int.toString (fib 15))`,
		`fun build n = if n = 0 then [] else n :: build (n - 1) fun sum [] = 0 | sum (x :: l) = x + sum l fun loop 0 = () | loop n = (print (Int.toString (sum (build 200))); loop (n - 1)) val _ = loop 10`,
		`fun rep 0 s = s | rep n s = rep (n - 1) (s ^ "x") val _ = print (rep 300 "")`,
		`fun p n = if n = 0 then 1 else 2 * p (n - 1) val x = p 600 val _ = print (Int.toString (x * x div (p 300) mod (p 299 + 1)))`,
		`datatype t = L | N of t * int * t fun put L x = N (L, x, L) | put (t as N (l, y, r)) x = if x < y then N (put l x, y, r) else if y < x then N (l, y, put r x) else t fun all L = "" | all (N (l, x, r)) = all l ^ Int.toString x ^ all r fun go 0 t = t | go n t = go (n - 1) (put t (n * 7919 mod 1009)) val _ = print (all (go 100 L))`,
		`val _ = print (inputLine ()) val _ = print (inputLine ()) val _ = print (readFile "f") val _ = exit 7`,
		`exception A exception B of string fun f n = if n = 0 then raise B "deep" else (f (n - 1); ()) handle A => print "no" val _ = f 50 handle B s => print s val _ = raise A`,
		`fun grow l = grow (1 :: l) val _ = grow []`,
		`val r = ref 0.5 val _ = while !r < 1000.0 do r := !r * 1.5 val _ = print (Int.toString (Real.floor (!r)))`,
	}
}

// P19.3: what texts become; eight registers are enough for most of that, so that it doesn't take much longer.
func TestTexts(t *testing.T) {
	t.Parallel()
	for _, text := range texts() {
		p := wordsOf(t, text)
		q := made(t, p)
		a, b := begun(t, p, false, call{}, theWorld()), begun(t, q, true, call{}, theWorld())
		if a.Run(1<<26) != api.Exited {
			t.Fatalf("does not end: %s", text)
		}
		if b.Run(a.Steps()*5/4) != api.Exited || a.Code() != b.Code() || !slices.Equal(a.world.Trace(), b.world.Trace()) {
			t.Errorf("%d steps instead of %d, code %d and not %d: %s", b.Steps(), a.Steps(), b.Code(), a.Code(), text)
		}
		holdMemory(t, p, a, b)
		holdAlike(t, p, q, call{}, theWorld(), 20, 100000)
	}
}

// P19.2, P19.3: the runtime alone.
func TestRuntime(t *testing.T) {
	p := basisrt.Program()
	q := made(t, p)
	if _, status := holdAlike(t, p, q, call{}, theWorld(), 100, 10000); status != api.Exited {
		t.Error(status)
	}
	for i, f := range q.Funs {
		if n := len(f.Code); n > 2*len(p.Funs[i].Code)+10 {
			t.Errorf("%s: %d instructions instead of %d", f.Name, n, len(p.Funs[i].Code))
		}
	}
}
