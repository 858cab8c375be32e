package colour

import (
	"fmt"
	"strings"
	"testing"

	"smithy/api"
	"smithy/word"
	"smithy/world"
)

// P19.3: as many calls in one another as may be, and one more, with values that outlive each of them.
func TestDeepCalls(t *testing.T) {
	t.Parallel()
	const rest = "\nf 1 20 0: const 1 1; branch 0 1 ltu 1; sub 2 0 1; and 3 0 1; call 4 f 2; add 4 4 3; ret 4; label 1; const 5 0; ret 5\ng 1 20 0: const 1 1; branch 0 1 ltu 1; sub 2 0 1; func 3 g; apply 4 3 2; add 4 4 1; ret 4; label 1; const 5 0; ret 5"
	for _, r := range []struct {
		depth int
		f     string
		well  bool
		code  int
	}{
		{api.MaxCalls - 2, "f", true, (api.MaxCalls - 2) / 2 & 255}, {api.MaxCalls - 1, "f", false, 0}, {api.MaxCalls - 2, "g", true, (api.MaxCalls - 2) & 255}, {api.MaxCalls - 1, "g", false, 0}, {1000, "f", true, 500 & 255},
	} {
		p := program(fmt.Sprintf("main 0 9 0: const 8 %d; call 0 %s 8; ret 0", r.depth, r.f) + rest)
		q := made(t, p)
		a, b := begun(t, p, false, call{}, theWorld()), begun(t, q, true, call{}, theWorld())
		status := a.Run(1 << 26)
		got := b.Run(20*a.Steps() + 1000)
		if (status == api.Exited) != r.well || got != status || a.Code() != r.code || b.Code() != r.code || b.Steps() < a.Steps() {
			t.Errorf("%s, %d deep: %d, code %d, coloured %d, code %d", r.f, r.depth, status, a.Code(), got, b.Code())
		}
	}
}

// P19.3: all orders of parameters that are handed on, in a row or each many times, from as many registers as there are colours and more.
func TestArguments(t *testing.T) {
	t.Parallel()
	const rest = "\nw 4 12 0: const 11 7; mul 10 0 11; add 10 10 1; mul 10 10 11; add 10 10 2; mul 10 10 11; add 10 10 3; ret 10\nmix 4 12 0: %s"
	for n := range 4 * 4 * 4 * 4 {
		args := fmt.Sprint(n%4, " ", n/4%4, " ", n/16%4, " ", n/64)
		for _, how := range []string{"tail w %s", "call 9 w %s; ret 9", "func 9 w; go 9 %s", "func 9 w; apply 9 9 %s; ret 9", "call 9 w %s; call 8 w %[1]s; sub 9 9 8; add 9 9 0; add 9 9 1; sub 9 9 2; add 9 9 3; ret 9"} {
			p := program("main 0 4 0: const 0 1; const 1 2; const 2 3; const 3 5; tail mix 0 1 2 3" + fmt.Sprintf(rest, fmt.Sprintf(how, args)))
			if _, status := holdAlike(t, p, made(t, p), call{}, theWorld(), 50, 50); status != api.Exited {
				t.Fatal(status, shown(p))
			}
		}
	}
	for _, many := range []int{4, 7, 8, 9, 10, 12, 16, 40} {
		var l []string
		for i := range many {
			l = append(l, fmt.Sprintf("mul %d 0 1", 3+i))
			l = append(l, fmt.Sprintf("add %d %d 0", 3+i, 3+i-min(i, 1)))
		}
		for i := range many {
			l = append(l, fmt.Sprintf("call %d w %d %d %d %d", 3+(i*5+1)%many, 3+i, 3+(i+1)%many, 3+(i*3+2)%many, 3+many-1-i))
		}
		l = append(l, fmt.Sprintf("tail w %d %d %d %d", 3, 3+many-1, 3+many/2, 4))
		p := program("main 0 60 0: const 0 3; const 1 5; " + strings.Join(l, "; ") + fmt.Sprintf(rest, "ret 0"))
		if _, status := holdAlike(t, p, made(t, p), call{}, theWorld(), 400, 4000); status != api.Exited {
			t.Fatal(status, shown(p))
		}
	}
}

// P19.3: calls that are entered by their names, which are the first ones of their names.
func TestEntered(t *testing.T) {
	p := withData("main 0 9 0: const 0 1; ret 0\nf 2 20 0: const 2 3; mul 3 0 2; mul 4 1 2; add 5 3 4; call 6 g 5; sub 6 6 3; add 6 6 4; data 7 24; store 7 6 0 8; load 8 7 8 8; add 6 6 8; ret 6\ng 1 9 0: const 8 1; data 7 24; sys 7 1 8 7 8; add 0 0 7; ret 0\n" +
		"f 2 9 0: ret 0\nquit 3 12 0: sub 11 0 1; sub 11 11 2; sys 10 60 11; ret 10\nnone 0 9 0: const 8 -5; ret 8\nfour 4 4 0: ret 3")
	q := made(t, p)
	for _, r := range []struct {
		c      call
		status int
		answer uint64
		code   int
	}{
		{call{name: "f", args: []uint64{2, 5}, words: [][2]uint64{{api.DataBase + 32, 1000}}}, api.WordDone, 21 + 1 - 6 + 15 + 1000, 0},
		{call{name: "f", args: []uint64{1 << 63, 0}}, api.WordDone, 1, 0},
		{call{name: "g", args: []uint64{7}}, api.WordDone, 8, 0},
		{call{name: "quit", args: []uint64{700, 100, 1}}, api.Exited, 0, 599 & 255},
		{call{name: "none"}, api.WordDone, 1<<64 - 5, 0},
		{call{name: "four", args: []uint64{1, 2, 3, 4}}, api.WordDone, 4, 0},
		{call{name: "main"}, api.WordDone, 1, 0},
	} {
		if _, status := holdAlike(t, p, q, r.c, theWorld(), 100, 100); status != r.status {
			t.Errorf("%s: %d", r.c.name, status)
		}
		b := begun(t, q, true, r.c, theWorld())
		b.Run(1000)
		if b.Answer() != r.answer || b.Code() != r.code {
			t.Errorf("%s: %d, code %d", r.c.name, b.Answer(), b.Code())
		}
	}
}

// P19.3: calls that are entered one behind the other in one process.
func TestEnteredAgain(t *testing.T) {
	p := withData("main 0 12 0: const 9 4; call 8 put 9; ret 8\nput 1 12 0: data 10 40; load 11 10 0 8; add 11 11 0; store 10 11 0 8; ret 11")
	q := made(t, p)
	a, _ := word.New(p, api.MinHeap, false, world.New(api.World{}))
	b, _ := word.New(q, api.MinHeap, true, world.New(api.World{}))
	for i := range uint64(10) {
		if a.Run(100) != b.Run(400) || a.Answer() != b.Answer() || a.Code() != b.Code() {
			t.Fatal(i, a.Answer(), b.Answer())
		}
		a.Enter("put", []uint64{i})
		b.Enter("put", []uint64{i})
	}
	if a.Run(100) != api.WordDone || a.Answer() != 4+45 {
		t.Error(a.Answer())
	}
}

// P19.3: a row of functions, each of which calls the next one with its first steps, and would have to set much ahead of these: what the
// last one writes is written within so many steps as may be.
func TestCheapCalls(t *testing.T) {
	t.Parallel()
	const last = "\nlast %d 16 0: const 12 1; data 13 0; sys 14 1 12 13 12; sys 15 60 12; ret 15"
	var set, use []string
	for i := 4; i < 16; i++ {
		set = append(set, fmt.Sprintf("move %d 0", i))
		use = append(use, fmt.Sprintf("add 1 1 %d", i))
	}
	long := strings.Join(use, "; ") + "; " + strings.Join(set, "; ")
	for _, r := range []struct {
		params int
		text   string
	}{
		// the call alone, in a loop, behind which all is read that was set in the round ahead
		{4, "label 1; call 1 next 0 1 2 3; " + long + "; jump 1"},
		{4, "label 1; label 2; call 1 next 0 1 2 3; branch 1 0 eq 2; " + long + "; jump 1"},
		{1, "label 1; call 1 next 0; add 1 1 2; " + long + "; move 2 1; jump 1"},
		// a branch ahead of it
		{4, "branch 0 1 eq 1; " + strings.Join(set, "; ") + "; label 1; call 1 next 0 1 2 3; branch 0 0 eq 2; " + long + "; label 2; ret 1"},
		{4, "label 2; branch 0 1 eq 1; " + strings.Join(set, "; ") + "; label 1; call 1 next 0 1 2 3; " + long + "; jump 2"},
		{4, "label 2; branch 0 0 eq 1; " + strings.Join(set, "; ") + "; label 1; func 2 next; tail next 0 1 2 3; label 3; " + long + "; jump 2"},
		// what is handed over is needed behind the call
		{4, "call 4 next 0 1 2 3; add 0 0 1; add 0 0 2; add 0 0 3; ret 0"},
		{4, "label 1; call 4 next 3 2 1 0; branch 0 1 eq 1; branch 2 3 eq 1; add 0 0 4; ret 0"},
		{4, "tail next 1 2 3 0"},
		{4, "label 1; branch 0 0 eq 2; jump 1; label 2; call 4 next 1 2 3 0; branch 0 1 eq 1; branch 2 3 eq 1; ret 4"},
	} {
		var b strings.Builder
		n := 2500
		args := " 0 0 0 0"[:2*r.params]
		fmt.Fprintf(&b, "main 0 1 0: const 0 0; tail f0%s", args)
		for i := range n {
			next := fmt.Sprint("f", i+1)
			if i == n-1 {
				next = "last"
			}
			fmt.Fprintf(&b, "\nf%d %d 16 0: %s", i, r.params, strings.ReplaceAll(r.text, "next", next))
		}
		fmt.Fprintf(&b, last, r.params)
		p := withData(b.String())
		q := made(t, p)
		a, c := begun(t, p, false, call{}, theWorld()), begun(t, q, true, call{}, theWorld())
		for len(a.world.Trace()) == 0 && a.Run(1) == api.Running {
		}
		if len(a.world.Trace()) == 0 {
			t.Fatal("nothing is written", r.text, a.Steps())
		}
		for len(c.world.Trace()) == 0 && c.Run(1) == api.Running {
		}
		if c.Steps() > 16*a.Steps()+1000 {
			t.Errorf("%s: %d steps, instead of %d", r.text, c.Steps(), a.Steps())
		}
	}
}
