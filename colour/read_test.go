package colour

import (
	"fmt"
	"strconv"
	"strings"
	"testing"

	"smithy/api"
)

// Programs of tests are written as texts, as the document's examples are: instructions with their fields, in the order in which the
// document's table names them, apart by semicolons. A function is headed by its name, its parameters, registers and slots.
//
//	main 0 3 1: const 0 5; call 1 f 0; ret 1
//	f 1 2 0: ret 0

// forms says which fields an instruction has: its kind, and of each a letter (i is Imm, l the rest: Args).
var forms = map[string]struct {
	kind   int
	fields string
}{
	"const": {api.WordConst, "Di"}, "move": {api.WordMove, "DA"}, "add": {api.WordAdd, "DAB"}, "sub": {api.WordSub, "DAB"}, "mul": {api.WordMul, "DAB"},
	"high": {api.WordHigh, "DAB"}, "div": {api.WordDiv, "DAB"}, "rem": {api.WordRem, "DAB"}, "and": {api.WordAnd, "DAB"}, "or": {api.WordOr, "DAB"},
	"xor": {api.WordXor, "DAB"}, "shl": {api.WordShl, "DAB"}, "shr": {api.WordShr, "DAB"}, "sar": {api.WordSar, "DAB"}, "set": {api.WordSet, "DABC"},
	"real": {api.WordReal, "DABR"}, "load": {api.WordLoad, "DAiS"}, "store": {api.WordStore, "ABiS"}, "label": {api.WordLabel, "L"}, "jump": {api.WordJump, "L"},
	"branch": {api.WordBranch, "ABCL"}, "call": {api.WordCall, "DFl"}, "apply": {api.WordApply, "DAl"}, "tail": {api.WordTail, "Fl"}, "go": {api.WordGo, "Al"},
	"ret": {api.WordRet, "A"}, "data": {api.WordData, "Di"}, "func": {api.WordFunc, "DF"}, "heap": {api.WordHeap, "D"}, "sys": {api.WordSys, "Dil"},
	"get": {api.WordGet, "Di"}, "put": {api.WordPut, "Ai"},
}

var (
	conds = []string{"", "eq", "ne", "lt", "le", "ltu", "leu"}
	reals = []string{"", "add", "sub", "mul", "div", "lt", "le", "eq", "int"}
)

// form is the name and the fields of a kind, empty of none.
func form(kind int) (string, string) {
	for name, f := range forms {
		if f.kind == kind {
			return name, f.fields
		}
	}
	return "", ""
}

// number reads a number, of which a great one may be a word from 0 on, or a name out of a list.
func number(s string, names []string) int64 {
	for i, n := range names {
		if n == s && n != "" {
			return int64(i)
		}
	}
	if n, err := strconv.ParseInt(s, 0, 64); err == nil {
		return n
	}
	n, err := strconv.ParseUint(s, 0, 64)
	if err != nil {
		panic(fmt.Sprint(s, " is no number and no name"))
	}
	return int64(n)
}

func instruction(s string, funs []string) api.Word {
	l := strings.Fields(s)
	f, is := forms[l[0]]
	if !is {
		panic(s)
	}
	w := api.Word{Kind: f.kind}
	l = l[1:]
	for _, c := range f.fields {
		if c == 'l' {
			for _, x := range l {
				w.Args = append(w.Args, int(number(x, nil)))
			}
			l = nil
			continue
		}
		x := l[0]
		l = l[1:]
		switch c {
		case 'D':
			w.D = int(number(x, nil))
		case 'A':
			w.A = int(number(x, nil))
		case 'B':
			w.B = int(number(x, nil))
		case 'L':
			w.L = int(number(x, nil))
		case 'F':
			w.F = int(number(x, funs))
		case 'C':
			w.Cond = int(number(x, conds))
		case 'R':
			w.Real = int(number(x, reals))
		case 'S':
			w.Size = int(number(x, nil))
		case 'i':
			w.Imm = number(x, nil)
		}
	}
	if len(l) > 0 {
		panic("too many fields: " + s)
	}
	return w
}

func code1(s string, funs ...string) []api.Word {
	var out []api.Word
	for x := range strings.SplitSeq(s, ";") {
		if strings.TrimSpace(x) != "" {
			out = append(out, instruction(strings.TrimSpace(x), funs))
		}
	}
	return out
}

// program reads a program, without data.
func program(s string) api.WordProgram {
	var p api.WordProgram
	var funs, bodies []string
	for l := range strings.SplitSeq(s, "\n") {
		head, body, is := strings.Cut(strings.TrimSpace(l), ":")
		if !is {
			continue
		}
		h := strings.Fields(head)
		funs, bodies = append(funs, h[0]), append(bodies, body)
		p.Funs = append(p.Funs, api.WordFunction{Name: h[0], Params: int(number(h[1], nil)), Regs: int(number(h[2], nil)), Slots: int(number(h[3], nil))})
	}
	for i, b := range bodies {
		p.Funs[i].Code = code1(b, funs...)
	}
	return p
}

// text writes a program as it is read.
func text(p api.WordProgram) string {
	var b strings.Builder
	for i, f := range p.Funs {
		name := f.Name
		if name == "" {
			name = fmt.Sprint("f", i)
		}
		fmt.Fprintf(&b, "%s %d %d %d: ", name, f.Params, f.Regs, f.Slots)
		for _, w := range f.Code {
			b.WriteString(wordText(w) + "; ")
		}
		b.WriteString("\n")
	}
	fmt.Fprintf(&b, "data %x, zero %d\n", p.Data, p.Zero)
	return b.String()
}

func wordText(w api.Word) string {
	name, fields := form(w.Kind)
	if name == "" {
		return fmt.Sprintf("%+v", w)
	}
	out := name
	for _, c := range fields {
		switch c {
		case 'D':
			out += fmt.Sprint(" ", w.D)
		case 'A':
			out += fmt.Sprint(" ", w.A)
		case 'B':
			out += fmt.Sprint(" ", w.B)
		case 'L':
			out += fmt.Sprint(" ", w.L)
		case 'F':
			out += fmt.Sprint(" ", w.F)
		case 'C':
			out += fmt.Sprint(" ", w.Cond)
		case 'R':
			out += fmt.Sprint(" ", w.Real)
		case 'S':
			out += fmt.Sprint(" ", w.Size)
		case 'i':
			out += fmt.Sprint(" ", w.Imm)
		case 'l':
			for _, x := range w.Args {
				out += fmt.Sprint(" ", x)
			}
		}
	}
	return out
}

func TestReading(t *testing.T) {
	p := program("main 0 3 1: const 0 5; call 1 f 0; branch 0 1 lt 7; label 7; ret 1\n f 1 2 0: ret 0")
	want := "main 0 3 1: const 0 5; call 1 1 0; branch 0 1 3 7; label 7; ret 1; \nf 1 2 0: ret 0; \ndata , zero 0\n"
	if text(p) != want || len(forms) != 32 {
		t.Error(text(p), len(forms))
	}
}
