package close_test

import (
	"reflect"
	"strconv"
	"strings"
	"sync"
	"testing"

	"smithy/api"
	"smithy/core"
	"smithy/flow"
)

// places are terms with a part left open (@), which is a text, as they are themselves. Each tells by what it is, or by what it
// prints, that the part was worked out, and when; many of them hide the names x and y, or let a function capture them.
func places() []string {
	return []string{
		`(cat @ "1")`, `(cat "2" @)`, `(cat x @)`, `(cat @ (cat x y))`, `(substring (cat @ "345") 0 2)`,
		`(let x @ (cat x "k"))`, `(let x @ (cat y (cat x x)))`, `(let u @ "l")`, `(let x "m" @)`, `(let y (cat x "n") @)`, `(let z @ ((fn x (cat x z)) x))`,
		`(field 0 [3 @ x])`, `(field 1 [0 x @ y])`, `(let b [0 y @] (cat (field 1 b) (field 0 b)))`,
		`(if (eq @ x) "t" "f")`, `(if (slt x y) @ "e")`, `(if (slt y x) "t" @)`, `(cat (if (slt x y) @ (raise "no")) "o")`, `(cat (if (slt x y) @ y) "o")`, `(if (if (eq @ "") #0 #1) x y)`,
		`(switch (if (eq @ x) #0 [1 x]) 0: "p" 1: "q" "r")`, `(switch [2 x] 0: x 2: @ y)`, `(cat (switch #7 0: x 2: y @) "s")`, `(cat (switch #0 0: @ 2: (raise "no") (raise "no")) "s")`, `(switch #0 @)`,
		`(raise @)`, `(cat x (raise @))`, `(if #1 (raise @) x)`, `(handle @ z (cat z "h"))`, `(handle (raise @) x (cat x "h"))`, `(handle (raise "u") y @)`, `(handle (cat x (raise @)) z (cat z x))`, `(cat (handle @ x x) (handle (raise "v") x x))`, `(handle (let u (raise @) "no") x x)`,
		`((fn x (cat x "b")) @)`, `((fn y @) x)`, `(let f (fn z (cat x z)) (f @))`, `(let f (fn z (cat x z)) (cat (f @) (f "c")))`, `(let f (fn z @) (f x))`, `(let f (fn x @) (cat (f "d") (f "e")))`, `((get (ref (fn x @))) "g")`, `((get (ref (fn z (cat z y)))) @)`, `((let u @ (fn z (cat x z))) "i")`, `(((fn x (fn y @)) "x") "y")`, `(let f (fn x (fn y @)) (cat ((f y) x) x))`, `((fn f (f @)) (fn z (cat z x)))`, `((fn f (cat (f x) y)) (fn x @))`, `(cat ((if #1 (fn x @) (fn x y)) "j") x)`, `((let x @ (fn y (cat x y))) x)`,
		`(rec (f (fn n (if (le n 0) @ (cat x (f (sub n 1)))))) (f 2))`, `(rec (f (fn n (if (le n 0) y (g (sub n 1))))) (g (fn n (if (le n 0) @ (f (sub n 1))))) (f 3))`, `(rec (x (fn y @)) "w")`, `(rec (f (fn z (cat z y))) (f @))`, `(rec (f (fn z (g (cat z y)))) (g (fn z (cat z x))) @)`, `(rec (f (fn n (fn z (if (le n 0) z ((f (sub n 1)) (cat z y)))))) ((f 2) @))`, `(rec (f (fn x (g "z"))) (g (fn x @)) (cat (f "x") ((get (ref f)) "y")))`,
		`(let u (print @) "a")`, `(cat (let u (print x) @) y)`, `(get (ref @))`, `(let c (ref @) (let u (set c (cat (get c) x)) (get c)))`, `(vsub (vector [1 [0 @ [1 [0 x #0]]]]) 0)`, `(itext (size @))`,
	}
}

// parts are what stands in a place at last.
func parts() []string {
	return []string{`x`, `(let u (print y) (cat x y))`, `(raise (cat y x))`}
}

// filled is what stands in a place, in another one.
func filled(place, part string) string { return strings.ReplaceAll(place, "@", part) }

// wholes are terms around: what they hold is what is returned, or is gone on with.
func wholes() []string {
	return []string{`(let x "X" (let y "Y" @))`, `(let x (inputline 0) (let y "Y" (print @)))`, `((fn x (let y (cat x "Y") (print (cat (handle @ z (cat "caught " z)) x)))) "X")`}
}

// shared does something in several hands; each of them is told which one it is.
func shared(t *testing.T, do func(t *testing.T, hand int)) {
	t.Helper()
	t.Run("hands", func(t *testing.T) {
		for hand := range hands {
			t.Run(strconv.Itoa(hand), func(t *testing.T) {
				t.Parallel()
				do(t, hand)
			})
		}
	})
}

const hands = 8

// P11.1: each kind of term in each place of each kind of term: what is made may be, and does the same, with few steps and many.
func TestPlaces(t *testing.T) {
	all := places()
	ends := map[string]int{}
	var lock sync.Mutex
	shared(t, func(t *testing.T, hand int) {
		for n := hand; n < len(all)*(len(all)+1); n += hands {
			outer, inner := all[n%len(all)], append(all[:len(all):len(all)], "@")[n/len(all)]
			for i, part := range parts() {
				about := wholes()[(n+i)%3]
				c := term(t, filled(about, filled(outer, filled(inner, part))))
				got := told(alike(t, c, made(t, c), worlds()[n%2], 60, 25, 60, 400))
				lock.Lock()
				ends[got]++
				lock.Unlock()
			}
		}
	})
	if len(ends) < 1000 {
		t.Errorf("%d unlike ends", len(ends))
	}
}

// P11.1: three in one another, with many steps.
func TestPlacesDeep(t *testing.T) {
	all := places()
	shared(t, func(t *testing.T, hand int) {
		for n := hand; n < len(all)*len(all)*len(all); n += 3 * hands {
			inner := filled(all[n/len(all)/len(all)], parts()[n/3%len(parts())])
			same(t, filled(wholes()[2], filled(all[n%len(all)], filled(all[n/len(all)%len(all)], inner))))
		}
	})
}

// same holds a term's flow against it with many steps.
func same(t *testing.T, text string) {
	c := term(t, text)
	p := made(t, c)
	a, e := core.Run(c, worlds()[0], 3000)
	b, e2 := flow.Run(p, worlds()[0], api.MaxFuel)
	if e != api.OK || e2 != api.OK || !reflect.DeepEqual(a, b) || a.Status != api.Exited {
		t.Errorf("%s\ndoes    %s, %v\nin flow %s, %v", text, told(a), e, told(b), e2)
	}
}

// P11.1: a case is refused wherever it stands, and so is what may not be.
func TestRefusedPlaces(t *testing.T) {
	const about = `(let x "X" (let y "Y" @))`
	for i, place := range places() {
		for _, part := range []string{`(case x (| "X" x) y)`, `(case x x)`, `(let z (fn w (case w (| z z) w)) x)`} {
			if c := term(t, filled(about, filled(place, part))); core.Check(c) != api.OK || core.Plain(c) {
				t.Errorf("%s: may not be, or is plain", shown(c))
			}
			refused(t, place+" with "+part, term(t, filled(about, filled(place, part))))
		}
		refused(t, "a name that is not known", term(t, filled(about, filled(place, "unknown"+strconv.Itoa(i)))))
		refused(t, "a field that may not be", term(t, filled(about, filled(place, "(field 1024 x)"))))
		refused(t, "too many kids", term(t, filled(about, filled(place, "(print x y)"))))
		refused(t, "a raw kind", termWith(t, filled(about, filled(place, "$raw")), map[string]api.Core{"raw": {Kind: 19}}))
	}
}
