package types_test

import (
	"math/rand"
	"reflect"
	"slices"
	"strconv"
	"strings"
	"testing"

	"smithy/api"
	"smithy/syntax"
	"smithy/types"
)

func tvar(name string) api.Type { return api.Type{Kind: api.TypeVar, Name: name} }

func tcon(name string, args ...api.Type) api.Type {
	return api.Type{Kind: api.TypeCon, Name: name, Args: args}
}

func arrow(a, b api.Type) api.Type { return api.Type{Kind: api.TypeArrow, Args: []api.Type{a, b}} }

func trecord(labels string, args ...api.Type) api.Type {
	return api.Type{Kind: api.TypeRecord, Labels: strings.Fields(labels), Args: args}
}

func product(args ...api.Type) api.Type {
	return trecord(numbers(len(args), func(i int) string { return strconv.Itoa(i + 1) }, " "), args...)
}

// P5.3: texts of types.
func TestText(t *testing.T) {
	i, b, a, e := tcon("int"), tcon("bool"), tvar("'a"), tvar("''b")
	of := func(n int) api.Type { return product(slices.Repeat([]api.Type{i}, n)...) }
	for _, c := range []struct {
		t    api.Type
		want string
	}{
		{i, "int"}, {a, "'a"}, {e, "''b"}, {tcon("S.T.t#2"), "S.T.t#2"},
		{trecord(""), "unit"},
		{api.Type{Kind: api.TypeRecord, Labels: []string{}, Args: []api.Type{}}, "unit"},
		{arrow(i, b), "int -> bool"},
		{arrow(i, arrow(b, a)), "int -> bool -> 'a"},
		{arrow(arrow(i, b), a), "(int -> bool) -> 'a"},
		{arrow(arrow(i, b), arrow(a, e)), "(int -> bool) -> 'a -> ''b"},
		{product(i, b), "int * bool"},
		{product(i, b, a), "int * bool * 'a"},
		{product(product(i, b), a), "(int * bool) * 'a"},
		{product(i, product(b, a)), "int * (bool * 'a)"},
		{product(arrow(i, b), a), "(int -> bool) * 'a"},
		{product(i, arrow(b, a)), "int * (bool -> 'a)"},
		{arrow(product(i, b), product(b, i)), "int * bool -> bool * int"},
		{tcon("list", i), "int list"},
		{tcon("list", tcon("ref", a)), "'a ref list"},
		{tcon("list", product(i, b)), "(int * bool) list"},
		{tcon("list", arrow(i, b)), "(int -> bool) list"},
		{tcon("list", trecord("")), "unit list"},
		{tcon("list", trecord("a", i)), "{a : int} list"},
		{tcon("t", i, b), "(int, bool) t"},
		{tcon("t", arrow(i, b), product(i, b), tcon("u", a, e)), "(int -> bool, int * bool, ('a, ''b) u) t"},
		{tcon("list", tcon("t", i, b)), "(int, bool) t list"},
		{arrow(tcon("list", i), tcon("list", b)), "int list -> bool list"},
		{product(tcon("list", i), tcon("list", b)), "int list * bool list"},
		{trecord("1", i), "{1 : int}"},
		{trecord("2", i), "{2 : int}"},
		{trecord("1 3", i, b), "{1 : int, 3 : bool}"},
		{trecord("2 3", i, b), "{2 : int, 3 : bool}"},
		{trecord("1 2 a", i, b, a), "{1 : int, 2 : bool, a : 'a}"},
		{trecord("a b", arrow(i, b), product(i, b)), "{a : int -> bool, b : int * bool}"},
		{product(trecord("a", i), trecord("b", b)), "{a : int} * {b : bool}"},
		{arrow(trecord("a", i), trecord("b", b)), "{a : int} -> {b : bool}"},
		{of(2), "int" + strings.Repeat(" * int", 1)},
		{of(8), "int" + strings.Repeat(" * int", 7)},
		{of(9), "int" + strings.Repeat(" * int", 8)},
		{of(10), "{1 : int, 2 : int, 3 : int, 4 : int, 5 : int, 6 : int, 7 : int, 8 : int, 9 : int, 10 : int}"},
		{of(1), "{1 : int}"},
		{tcon("list", of(10)), "{1 : int, 2 : int, 3 : int, 4 : int, 5 : int, 6 : int, 7 : int, 8 : int, 9 : int, 10 : int} list"},
	} {
		if got := types.Text(c.t); got != c.want {
			t.Errorf("%s, want %s", got, c.want)
		}
	}
}

// Types as Infer tells them.
func TestTypesTold(t *testing.T) {
	i := tcon("int")
	for program, want := range map[string]api.Type{
		"val x = 1":                 i,
		"val x = ()":                {Kind: api.TypeRecord},
		"val x = ref nil":           tcon("ref", tcon("list", api.Type{Kind: api.TypeRecord})),
		"fun x y = y":               arrow(tvar("'a"), tvar("'a")),
		"val x = op =":              arrow(product(tvar("''a"), tvar("''a")), tcon("bool")),
		"val x = {b = 1, 2 = 1}":    trecord("2 b", i, i),
		"val x = (1, 1)":            trecord("1 2", i, i),
		"val x : unit list = [{}]":  tcon("list", api.Type{Kind: api.TypeRecord}),
		"type t = int val x = 1: t": i,
	} {
		_, values, e := types.Infer(parsed(t, program))
		if e != api.OK || len(values) != 1 || values[0].Name != "x" || !reflect.DeepEqual(values[0].Type, want) {
			t.Errorf("%s: %v, %+v", program, e, values)
		}
	}
}

// random is some type, as Infer may tell it.
func random(r *rand.Rand, depth int) api.Type {
	some := func(n int) []api.Type {
		var out []api.Type
		for range n {
			out = append(out, random(r, depth-1))
		}
		return out
	}
	if depth == 0 {
		return []api.Type{tcon("int"), tcon("S.t"), tvar("'a"), tvar("''b"), tvar("'c12"), trecord("")}[r.Intn(6)]
	}
	switch r.Intn(5) {
	case 0:
		return arrow(random(r, depth-1), random(r, depth-1))
	case 1:
		return product(some(2 + r.Intn(9))...)
	case 2:
		return tcon("t", some(1+r.Intn(3))...)
	case 3:
		labels := []string{"1", "2 3", "1 3", "1 2 a", "a", "b c"}[r.Intn(6)]
		return trecord(labels, some(len(strings.Fields(labels)))...)
	}
	return random(r, depth-1)
}

// written is a type as a program has it, without unit.
func readBack(t *testing.T, text string) api.Type {
	t.Helper()
	l, m := syntax.Parse("exception E of " + text)
	if m.Code != api.OK {
		t.Fatalf("%s: %v", text, m)
	}
	return noUnit(l[0].Types[0])
}

func noUnit(t api.Type) api.Type {
	if t.Kind == api.TypeCon && t.Name == "unit" {
		return api.Type{Kind: api.TypeRecord}
	}
	for i := range t.Args {
		t.Args[i] = noUnit(t.Args[i])
	}
	if len(t.Labels) == 0 {
		t.Labels = nil
	}
	if len(t.Args) == 0 {
		t.Args = nil
	}
	return t
}

// P5.3: as the grammar has it, with the fewest parentheses: without any pair of them another type is read, or none.
func TestTextIsRead(t *testing.T) {
	r := rand.New(rand.NewSource(1))
	for range 2000 {
		ty := noUnit(random(r, r.Intn(4)))
		text := types.Text(ty)
		if got := readBack(t, text); !reflect.DeepEqual(got, ty) {
			t.Fatalf("%s is read as %+v", text, got)
		}
		for _, less := range withoutPairs(text) {
			l, m := syntax.Parse("exception E of " + less)
			if m.Code == api.OK && len(l) == 1 && reflect.DeepEqual(noUnit(l[0].Types[0]), ty) {
				t.Fatalf("%s would do for %s", less, text)
			}
		}
	}
}

// withoutPairs are texts with one pair of parentheses less.
func withoutPairs(text string) (out []string) {
	var open []int
	for i := range len(text) {
		switch text[i] {
		case '(':
			open = append(open, i)
		case ')':
			at := open[len(open)-1]
			open = open[:len(open)-1]
			out = append(out, text[:at]+text[at+1:i]+text[i+1:])
		}
	}
	return out
}

// Types that are told can be written: a value has the type that is told of it, and none that is more general.
func TestTextIsTheType(t *testing.T) {
	for _, program := range programs() {
		values := told(t, program)
		if values == "ErrType" || values == "" || strings.Contains(values, "#") || strings.Contains(values, ".") || strings.Contains(program, "datatype") {
			continue
		}
		specs := ""
		seen := map[string]bool{}
		list := strings.Split(values, "; ")
		slices.Reverse(list)
		for _, v := range list {
			if name, _, _ := strings.Cut(v, " : "); !seen[name] {
				seen[name] = true
				specs += "val " + v + " "
			}
		}
		whole := func(specs string) string {
			return told(t, "structure S : sig "+specs+" end = struct "+program+" end")
		}
		if whole(specs) == "ErrType" {
			t.Errorf("%s hasn't %s", program, specs)
		}
		for _, general := range moreGeneral(specs) {
			if !strings.Contains(general, "unit") && whole(general) != "ErrType" {
				t.Errorf("%s has %s", program, general)
			}
		}
	}
}

// moreGeneral are specifications in which one type without arguments is a variable of its own.
func moreGeneral(specs string) (out []string) {
	words := strings.Fields(specs)
	for i, w := range words {
		if slices.Contains([]string{"int", "bool", "real", "string", "char", "exn"}, w) {
			other := slices.Clone(words)
			other[i] = "'other"
			out = append(out, strings.Join(other, " "))
		}
	}
	return out
}

// R1: odd types have some text.
func TestOddTexts(t *testing.T) {
	for k := -1; k < 7; k++ {
		one := api.Type{Kind: k, Name: "x"}
		for _, ty := range []api.Type{one, {Kind: k, Args: []api.Type{one}}, {Kind: k, Args: []api.Type{one, one, one}}, {Kind: k, Labels: []string{"1", "2"}}, {Kind: k, Labels: []string{"1", "2"}, Args: []api.Type{one}}, {Kind: k, Labels: []string{"a"}, Args: []api.Type{one, one}}} {
			types.Text(ty)
		}
	}
	ring := make([]api.Type, 1)
	ring[0] = api.Type{Kind: api.TypeCon, Name: "t", Args: ring}
	types.Text(ring[0])
	wide := make([]api.Type, 2)
	for i := range wide {
		wide[i] = api.Type{Kind: api.TypeArrow, Args: wide}
	}
	types.Text(wide[0])
	deep := tcon("int")
	for range 1 << 16 {
		deep = tcon("l", deep)
	}
	if got := types.Text(deep); got != "int"+strings.Repeat(" l", 1<<16) {
		t.Error("a deep type")
	}
}
