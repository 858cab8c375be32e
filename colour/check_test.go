package colour

import (
	"math/rand/v2"
	"slices"
	"testing"

	"smithy/api"
	"smithy/word"
)

// P19.1: few registers, and nothing that is read without being set.
func TestCheck(t *testing.T) {
	const f = "\nf 1 2 1: ret 0"
	for _, r := range []struct {
		text string
		want api.Errno
	}{
		{"main 0 1 0: const 0 1; ret 0", api.OK},
		{"main 0 8 0: const 7 1; ret 7", api.OK},
		{"main 0 9 0: const 7 1; ret 7", api.ErrColour},
		{"main 0 9 0: const 8 1; ret 8", api.ErrColour},
		{"main 0 65536 0: const 0 1; ret 0", api.ErrColour},
		{"main 0 65537 0: const 0 1; ret 0", api.ErrWordForm},
		{"main 0 8 0: const 7 1; ret 7\ng 4 8 0: ret 3\nh 0 8 0: label 1; jump 1", api.OK},
		{"main 0 8 0: const 7 1; ret 7\ng 4 9 0: ret 3\nh 0 8 0: label 1; jump 1", api.ErrColour},
		{"main 0 8 0: const 7 1; ret 7\ng 4 8 0: ret 3\nh 0 9 0: label 1; jump 1", api.ErrColour},
		{"main 0 0 0: label 1; jump 1", api.OK},
		{"main 0 8 1048576: const 0 1; put 0 1048575; ret 0", api.OK},
		// what isn't set
		{"main 0 1 0: ret 0", api.ErrColour},
		{"main 0 2 0: const 0 1; ret 1", api.ErrColour},
		{"main 0 1 0: const 0 1; ret 0\ng 1 2 0: ret 1", api.ErrColour},
		{"main 0 2 0: const 0 1; branch 0 0 eq 1; const 1 1; label 1; ret 1", api.ErrColour},
		{"main 0 2 0: const 0 1; branch 0 0 eq 1; const 1 1; label 1; ret 0", api.OK},
		{"main 0 2 0: const 0 1; const 1 1; branch 0 0 eq 1; const 1 1; label 1; ret 1", api.OK},
		{"main 0 2 0: const 0 1; label 1; branch 0 0 ne 2; const 1 1; jump 1; label 2; ret 1", api.ErrColour},
		{"main 0 1 1: get 0 0; ret 0", api.ErrColour},
		{"main 0 1 2: const 0 1; put 0 1; get 0 1; ret 0", api.OK},
		{"main 0 1 2: const 0 1; put 0 1; get 0 0; ret 0", api.ErrColour},
		{"main 0 1 1: const 0 1; branch 0 0 eq 1; put 0 0; label 1; get 0 0; ret 0", api.ErrColour},
		// behind calls
		{"main 0 2 0: const 0 1; call 1 f 0; ret 1" + f, api.OK},
		{"main 0 2 0: const 0 1; call 1 f 0; ret 0" + f, api.ErrColour},
		{"main 0 2 0: const 0 1; call 0 f 0; ret 0" + f, api.OK},
		{"main 0 2 0: func 0 f; apply 1 0 0; ret 0" + f, api.ErrColour},
		{"main 0 2 0: func 0 f; apply 1 0 0; ret 1" + f, api.OK},
		{"main 0 2 0: func 0 f; go 0 0; ret 1" + f, api.OK},
		{"main 0 2 0: const 0 1; sys 1 3 0; ret 0", api.OK},
		{"main 0 2 1: const 0 1; put 0 0; call 1 f 0; get 0 0; ret 0" + f, api.OK},
		// what isn't come to counts for registers alone
		{"main 0 2 0: const 0 1; ret 0; add 0 1 1; ret 1", api.OK},
		{"main 0 2 0: jump 1; label 2; ret 1; label 1; const 0 1; ret 0", api.OK},
		// a program that may not be
		{"main 0 9 0: const 0 1", api.ErrWordForm},
		{"main 0 9 0: const 9 1; ret 0", api.ErrWordForm},
		{"main 1 9 0: ret 0", api.ErrWordForm},
		{"main 0 9 0: jump 1", api.ErrWordForm},
		{"main 0 9 0: ret 0\ng 5 9 0: ret 0", api.ErrWordForm},
		{"main 0 9 0: get 0 0; ret 0", api.ErrWordForm},
		{"", api.ErrWordForm},
	} {
		if e := Check(program(r.text)); e != r.want {
			t.Errorf("%s: %v, wanted %v", r.text, e, r.want)
		}
	}
}

// P19.1: of programs at random the words themselves.
func TestRandomChecks(t *testing.T) {
	count := map[api.Errno]int{}
	for seed := range uint64(4000) {
		m := &maker{r: rand.New(rand.NewPCG(seed, 191)), few: seed%2 == 0}
		p := m.program()
		if seed%7 == 0 {
			p.Funs[m.n(len(p.Funs))].Params++
		}
		if seed%5 == 0 {
			p = made(t, m.program())
		}
		want := word.Check(p)
		wide := slices.ContainsFunc(p.Funs, func(f api.WordFunction) bool { return f.Regs > 8 })
		if want == api.OK && (wide || !word.Strict(p)) {
			want = api.ErrColour
		}
		if e := Check(p); e != want {
			t.Fatalf("%v, wanted %v: %s", e, want, shown(p))
		}
		count[want]++
	}
	if count[api.OK] < 500 || count[api.ErrColour] < 500 || count[api.ErrWordForm] < 100 {
		t.Error(count)
	}
}

// refused holds that nothing but an error is answered.
func refused(t *testing.T, p api.WordProgram, want api.Errno) {
	t.Helper()
	q, e := Program(p)
	if e != want || q.Funs != nil || q.Data != nil || q.Zero != 0 {
		t.Errorf("%v, %d functions, wanted %v", e, len(q.Funs), want)
	}
}

// long is a function of n instructions.
func long(n int) []api.Word {
	l := make([]api.Word, n)
	for i := range l {
		l[i] = api.Word{Kind: api.WordConst, Imm: int64(i)}
	}
	l[n-1] = api.Word{Kind: api.WordRet}
	return l
}

// P19.2: how great a function may be, the first one and a later one.
func TestLimits(t *testing.T) {
	short := api.WordFunction{Name: "short", Regs: 1, Code: long(2)}
	for _, r := range []struct {
		code, slots, regs int
		want              api.Errno
	}{
		{1 << 16, 1 << 16, 1 << 16, api.OK}, {1<<16 + 1, 1 << 16, 1 << 16, api.ErrColour}, {1 << 16, 1<<16 + 1, 1 << 16, api.ErrColour}, {1<<16 + 1, 0, 1, api.ErrColour},
		{2, 1<<16 + 1, 1, api.ErrColour}, {2, api.MaxFrame, 1, api.ErrColour}, {2, api.MaxFrame + 1, 1, api.ErrWordForm}, {1 << 17, api.MaxFrame, 1, api.ErrColour},
		{1<<16 + 1, 0, 1<<16 + 1, api.ErrWordForm}, {1 << 16, 0, 1<<16 + 1, api.ErrWordForm}, {1 << 16, 1 << 16, 1, api.OK},
	} {
		f := api.WordFunction{Name: "great", Regs: r.regs, Slots: r.slots, Code: long(r.code)}
		for _, l := range [][]api.WordFunction{{f}, {f, short}, {short, f}, {short, short, f, short}} {
			p := api.WordProgram{Funs: l}
			if r.want == api.OK {
				made(t, p)
			} else {
				refused(t, p, r.want)
			}
		}
		if r.want != api.OK {
			refused(t, api.WordProgram{Funs: []api.WordFunction{f, {Name: "wrong"}}}, api.ErrWordForm)
		}
	}
}

// P19.2: many functions have more together, up to what a program may have.
func TestManyFunctions(t *testing.T) {
	l := long(1 << 16)
	var p api.WordProgram
	for range api.MaxLines >> 16 {
		p.Funs = append(p.Funs, api.WordFunction{Name: "f", Regs: 9, Slots: 1 << 16, Code: l})
	}
	made(t, p)
	p.Funs = append(p.Funs, api.WordFunction{Name: "f", Regs: 9, Code: long(2)})
	refused(t, p, api.ErrWordForm)
	p.Funs = nil
	for range 1 << 17 {
		p.Funs = append(p.Funs, program("f 0 50000 60000: const 49999 1; put 49999 59999; add 0 49999 49999; get 1 59999; branch 0 1 eq 8; jump 8; label 8; ret 0").Funs...)
	}
	holdAlike(t, p, made(t, p), call{}, theWorld(), 20, 20)
}

// P19.2: what may not be; ErrWordForm ahead of ErrColour.
func TestRefused(t *testing.T) {
	refused(t, api.WordProgram{}, api.ErrWordForm)
	refused(t, api.WordProgram{Data: []byte{1}, Zero: 5}, api.ErrWordForm)
	for _, s := range []string{"main 0 9 0: const 0 1", "main 0 9 0: const 9 1; ret 0", "main 1 9 0: ret 0", "main 0 9 0: jump 1", "main 0 9 0: const 0 1; call 0 0 0; ret 0", "main 0 1 0: ret 0\ng 5 9 0: ret 0"} {
		refused(t, program(s), api.ErrWordForm)
	}
	p := program("main 0 1 0: const 0 1; ret 0")
	p.Zero = -1
	refused(t, p, api.ErrWordForm)
	p.Zero = 1<<28 + 1
	refused(t, p, api.ErrWordForm)
}

// P19.2: data, names and parameters stay.
func TestKept(t *testing.T) {
	p := program("main 0 20 3: const 0 1; const 1 2; const 19 3; ret 19\n main 0 9 0: const 3 3; ret 3\n x 1 12 0: ret 0\n y 2 2 0: ret 0\n z 3 30 1: ret 2\n w 4 4 0: ret 1\n v 4 400 7: ret 3")
	p.Funs[2].Name, p.Funs[3].Name = "", "a name\x00\xff that is longer"
	for _, data := range [][]byte{nil, {}, {0}, []byte("some bytes")} {
		for _, zero := range []int{0, 1, 1 << 20} {
			p.Data, p.Zero = data, zero
			q := made(t, p)
			if len(data) == 0 && q.Data != nil {
				t.Error("an empty list that is not nil")
			}
		}
	}
}
