package opt_test

import (
	"fmt"
	"maps"
	"slices"
	"strings"
	"testing"

	"smithy/api"
)

// body is the text of a body that returns a text, or does something else, with the functions that it takes beside it. It sets
// locals from 100 on alone.
type body struct {
	text string
	funs []string
}

// place puts a body somewhere, so that a body comes of it; next is the number of the next function.
type place func(b body, next int) body

// with is a body with one function more.
func (b body) with(text string, more ...string) body {
	return body{text, append(append([]string{}, b.funs...), more...)}
}

// tells is a handler that returns what it was given, as far as that is a text, an integer or an exception.
const tells = `switch v1 0 { let 2 = field 0 v1; let 3 = get v2; let 3 = cat "x" v3; ret v3 } 1 { let 2 = field 0 v1; let 2 = cat "y" v2; ret v2 } { ret "z" }`

// places are all places.
func places() map[string]place {
	simple := func(ahead, behind string) place {
		return func(b body, _ int) body { return b.with(ahead + b.text + behind) }
	}
	called := func(text, function string) place {
		return func(b body, next int) body {
			put := strings.NewReplacer("f#", fmt.Sprintf("f%d", next), "BODY", b.text)
			return b.with(put.Replace(text), put.Replace(function))
		}
	}
	return map[string]place{
		"as it is":               simple(``, ``),
		"behind something":       simple(`let 0 = print "a"; let 1 = block 0 1 2; `, ``),
		"if, known":              simple(`let 0 = lt 1 2; if v0 { `, ` } { ret "no" }`),
		"else, known":            simple(`if #0 { ret "no" } { `, ` }`),
		"if":                     simple(`let 0 = ref #3; let 0 = get v0; if v0 { `, ` } { ret "no" }`),
		"else":                   simple(`let 0 = ref #0; let 0 = get v0; if v0 { ret "no" } { `, ` }`),
		"switch, known":          simple(`let 0 = block 7 1; switch v0 3 { ret "no" } 7 { `, ` } { ret "no" }`),
		"switch":                 simple(`let 0 = block 7 1; let 0 = ref v0; let 0 = get v0; switch v0 3 { ret "no" } 7 { `, ` } { ret "no" }`),
		"else of a switch":       simple(`let 0 = ref #5; let 0 = get v0; switch v0 3 { ret "no" } 7 { ret "no" } { `, ` }`),
		"try":                    simple(`try { `, ` } catch 1 { `+tells+` } then 4; let 5 = print v4; ret v4`),
		"try that raises again":  simple(`try { `, ` } catch 1 { raise v1 } then 4; let 5 = print "t"; ret v4`),
		"try that is returned":   simple(`try { `, ` } catch 1 { raise v1 } then 4; ret v4`),
		"handler":                simple(`try { raise "r" } catch 1 { `, ` } then 4; let 5 = cat v4 "!"; ret v5`),
		"handler of a primitive": simple(`try { let 0 = div 1 0; ret "no" } catch 1 { `, ` } then 4; ret v4`),
		"handler of a call":      called(`try { tail f# } catch 1 { BODY } then 4; ret v4`, `raise 7`),
		"behind a try":           simple(`try { ret "t" } catch 1 { ret "no" } then 4; let 5 = print v4; `, ``),
		"behind one that raised": simple(`try { let 0 = chr 256; ret "no" } catch 1 { ret "h" } then 4; let 5 = print v4; `, ``),
		"called":                 called(`let 0 = call f#; let 1 = print "c"; ret v0`, `BODY`),
		"called twice":           called(`let 0 = call f#; let 1 = call f#; let 0 = cat v0 v1; ret v0`, `BODY`),
		"not needed":             called(`let 0 = call f#; ret "n"`, `BODY`),
		"tail":                   called(`tail f# 1 "a"`, `2: BODY`),
		"tail of one of two":     called(`let 0 = ref #1; let 0 = get v0; if v0 { tail f# } { tail f# }`, `BODY`),
		"applied":                called(`let 0 = closure f# "k"; let 1 = apply v0 "l"; ret v1`, `2: BODY`),
		"applied, not known":     called(`let 0 = closure f# "k"; let 0 = ref v0; let 0 = get v0; let 1 = apply v0 "l"; let 2 = apply v0 "l"; ret v1`, `2: BODY`),
		"go":                     called(`let 0 = closure f# "k"; go v0 "l"`, `2: BODY`),
		"in the end":             called(`let 0 = call f# 3; ret v0`, `1: let 1 = le v0 0; if v1 { BODY } { let 2 = sub v0 1; tail f# v2 }`),
		"in the end, not a tail": called(`let 0 = call f# 2; ret v0`, `1: let 1 = le v0 0; if v1 { BODY } { let 2 = sub v0 1; let 3 = call f# v2; let 3 = cat v3 "+"; ret v3 }`),
	}
}

// bodies are such as do each thing that there is.
func bodies() []string {
	return []string{
		`ret "a"`, `raise "a"`, `raise 1`, `let 100 = print "p"; ret "q"`, `let 100 = exit 3; ret "no"`, `let 100 = exit 3; let 101 = print "no"; ret v101`, `let 100 = add 1 "a"; ret "no"`, `go 1 2`, `if 1 { ret "no" } { ret "no" }`,
		`let 100 = ref "N"; let 101 = block 0 v100 5; raise v101`, `let 100 = block 1 "v"; raise v100`, `let 100 = div 1 0; ret "no"`, `let 100 = ssub "abc" 3; ret "no"`, `let 100 = bnew ~1; ret "no"`,
		`let 100 = inputline 0; ret v100`, `let 100 = inputline 0; ret "i"`, `let 100 = readfile "f"; ret v100`, `let 100 = readfile "f"; ret "r"`, `let 100 = writefile "g" "w"; ret "g"`,
		`let 100 = eprint "e"; ret "f"`, `let 100 = atom "a"; let 100 = cat v100 "b"; let 100 = cat v100 "c"; ret v100`,
		`let 100 = block 0 "a" "b"; let 101 = field 1 v100; let 102 = field 0 v100; let 101 = cat v101 v102; ret v101`,
		`let 100 = ref "a"; let 101 = set v100 "b"; let 102 = get v100; ret v102`, `let 100 = ref "a"; let 101 = atom v100; let 102 = set v101 "b"; let 103 = get v100; let 104 = same v100 v101; if v104 { ret v103 } { ret "no" }`,
		`let 100 = bnew 2; let 101 = bset v100 1 7; let 102 = bget v100 1; let 103 = itext v102; ret v103`, `let 100 = ref 1; let 101 = ref 1; let 102 = eq v100 v101; if v102 { ret "no" } { ret "two" }`,
		`let 100 = atom "a"; try { let 100 = atom "b"; raise 1 } catch 101 { ret v100 } then 102; let 100 = cat v100 v102; ret v100`,
		`let 100 = atom "a"; try { let 100 = atom "b"; ret "c" } catch 101 { ret v100 } then 102; let 100 = cat v100 v102; ret v100`,
		`let 100 = atom "a"; try { raise "b" } catch 100 { ret "c" } then 101; let 100 = cat v100 v101; ret v100`,
		`let 100 = atom "a"; try { let 101 = ref #1; let 101 = get v101; if v101 { let 100 = print "s"; raise 1 } { ret "no" } } catch 101 { switch v100 0 { ret "u" } { ret "no" } } then 101; ret v101`,
		`try { try { raise "a" } catch 100 { raise "b" } then 101; ret "no" } catch 100 { let 101 = print v100; ret "c" } then 102; ret v102`,
		`try { let 100 = ref #0; let 100 = get v100; if v100 { ret "x" } { ret "y" } } catch 101 { raise v101 } then 102; let 103 = cat v102 v102; ret v103`,
		`try { let 100 = ref #1; let 100 = get v100; if v100 { ret #1 } { ret #0 } } catch 101 { raise v101 } then 102; if v102 { ret "t" } { ret "f" }`,
		`let 100 = ref 3; let 100 = get v100; let 101 = lt v100 4; try { if v101 { ret #1 } { ret #0 } } catch 102 { raise v102 } then 102; if v102 { ret "t" } { ret "f" }`,
		`let 100 = ref #2; let 100 = get v100; switch v100 1 { ret "no" } 2 { if v100 { switch v100 2 { ret "two" } { ret "no" } } { ret "no" } } { ret "no" }`,
		`let 100 = ref #0; let 100 = get v100; if v100 { ret "no" } { switch v100 0 { let 101 = ord v100; let 101 = itext v101; ret v101 } { ret "no" } }`,
		`let 100 = mul 1000000007 998244353; let 101 = div v100 ~7; let 102 = mod v100 ~7; let 103 = itext v101; let 104 = itext v102; let 103 = cat v103 v104; ret v103`,
		`let 100 = rdiv %0 %0; let 101 = rneg v100; let 101 = rbits v101; let 102 = itext v101; ret v102`,
		`let 100 = vector #0; let 101 = vlen v100; let 101 = itext v101; ret v101`, `let 100 = block 0; let 101 = field 0 v100; ret "no"`, `switch 1 { ret "no" }`,
	}
}

// program is a program of a body: what that returns is printed.
func (b body) program(t testing.TB) api.Program {
	return program(t, append([]string{`let 0 = call f1; let 0 = print v0; ret 1`, b.text}, b.funs...)...)
}

// P12.1, P12.2: each thing in each place, in all worlds, and, one of so many, in each place that is in each other one.
func TestPlaces(t *testing.T) {
	t.Parallel()
	const oneOf = 4
	all := places()
	names := slices.Sorted(maps.Keys(all))
	shared(t, func(t *testing.T, seed int) {
		n := 0
		for _, outer := range names {
			for _, inner := range names {
				for _, text := range bodies() {
					n++
					simple := inner == "as it is"
					if n%hands+1 != seed || !simple && n/hands%oneOf != 0 {
						continue
					}
					b := all[inner](body{text: text}, 2)
					b = all[outer](b, 2+len(b.funs))
					holdPlace(t, b.program(t), simple)
				}
			}
		}
	})
}

func holdPlace(t *testing.T, p api.Program, simple bool) {
	q := made(t, p)
	r := again(t, q, 2)
	for i, w := range worlds() {
		if i == 0 || simple {
			alike(t, p, q, w, 50, 200)
			alike(t, p, r, w, 20, 200)
		}
	}
}
