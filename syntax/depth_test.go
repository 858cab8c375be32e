package syntax_test

import (
	"reflect"
	"strings"
	"testing"

	"smithy/api"
	"smithy/syntax"
)

// depthOf is how deep a tree is: declarations, expressions, patterns, types, specifications count 1 each.
func depthOf(x reflect.Value) int {
	most := 0
	switch x.Kind() {
	case reflect.Slice:
		for i := range x.Len() {
			most = max(most, depthOf(x.Index(i)))
		}
	case reflect.Struct:
		for i := range x.NumField() {
			most = max(most, depthOf(x.Field(i)))
		}
		switch x.Interface().(type) {
		case api.Dec, api.Exp, api.Pat, api.Type, api.Spec:
			return most + 1
		}
	}
	return most
}

// nested is a text with k times ahead and behind about what stands in the middle.
func nested(k int, before, ahead, middle, behind, after string) string {
	return before + strings.Repeat(ahead, k) + middle + strings.Repeat(behind, k) + after
}

// P4.1: a depth of MaxDepth and of one more, by each kind of thing that counts.
func TestDepth(t *testing.T) {
	for _, x := range []struct {
		adds                                 int
		before, ahead, middle, behind, after string
	}{
		{1, "val x = ", "raise ", "a", "", ""},
		{1, "val x = ", "if a then a else ", "a", "", ""},
		{1, "val x = ", "if ", "a", " then a else a", ""},
		{1, "val x = ", "if a then ", "a", " else a", ""},
		{1, "val x = ", "while a do ", "a", "", ""},
		{1, "val x = ", "while ", "a", " do a", ""},
		{1, "val x = ", "fn _ => ", "a", "", ""},
		{1, "val x = ", "fn 0 => a | _ => ", "a", "", ""},
		{1, "val x = ", "case ", "a", " of _ => a", ""},
		{1, "val x = ", "case a of _ => ", "a", "", ""},
		{1, "val x = ", "a handle _ => ", "a", "", ""},
		{1, "val x = ", "(", "a", ") handle _ => a", ""},
		{1, "val x = ", "a andalso ", "a", "", ""},
		{1, "val x = ", "a orelse ", "a", "", ""},
		{1, "val x = ", "(", "a", ") andalso a", ""},
		{1, "val x = ", "", "a", " : t", ""},
		{1, "val x = ", "", "f", " a", ""},
		{1, "val x = ", "f (", "a", ")", ""},
		{1, "val x = ", "[", "a", "]", ""},
		{1, "val x = ", "(a, ", "a", ")", ""},
		{1, "val x = ", "(a; ", "a", ")", ""},
		{1, "val x = ", "{a = ", "a", "}", ""},
		{1, "val x = ", "let in ", "a", " end", ""},
		{2, "val x = ", "let in a; ", "a", " end", ""},
		{2, "val x = ", "let val x = ", "a", " in a end", ""},
		{2, "val x = ", "let fun f x = ", "a", " in a end", ""},
		{2, "val x = ", "a :: ", "a", "", ""},
		{2, "val x = ", "", "a", " + a", ""},
		{1, "val ", "[", "a", "]", " = 1"},
		{1, "val ", "(_, ", "a", ")", " = 1"},
		{1, "val ", "{a = ", "a", "}", " = 1"},
		{1, "val ", "x as ", "a", "", " = 1"},
		{1, "val ", "A (", "a", ")", " = 1"},
		{1, "val ", "", "a", " : t", " = 1"},
		{2, "val ", "a :: ", "a", "", " = 1"},
		{1, "val x = case a of ", "[", "a", "]", " => 1"},
		{1, "fun f ", "[", "a", "]", " = 1"},
		{1, "fun f 0 = ", "raise ", "a", "", ""},
		{1, "fun f 0 = 0 | f 1 = ", "raise ", "a", "", " and g 0 = 0"},
		{1, "type t = ", "", "a", " t", ""},
		{1, "type t = ", "(a, ", "a", ") t", ""},
		{1, "type t = ", "a -> ", "a", "", ""},
		{1, "type t = ", "(", "a", ") -> a", ""},
		{1, "type t = ", "(a * ", "a", ")", ""},
		{1, "type t = ", "{a : ", "a", "}", ""},
		{1, "exception E of ", "", "a", " t", ""},
		{1, "datatype t = A | B of ", "", "a", " t", ""},
		{1, "datatype t = A and u = B of ", "", "a", " t", ""},
		{1, "val x : ", "", "a", " t", " = 1"},
		{1, "val x = a : ", "", "a", " t", ""},
		{1, "fun f x : ", "", "a", " t", " = 1"},
		{1, "", "structure S = struct ", "", " end", ""},
		{1, "", "structure S = struct structure T = U ", "val x = 1", " end", ""},
		{1, "", "structure S = struct ", "signature T = sig type t end", " end", ""},
		{1, "", "structure S = struct ", "signature T = sig exception E of int end", " end", ""},
		{1, "signature S = sig val x : ", "", "a", " t", " end"},
		{1, "signature S = sig type t = ", "", "a", " t", " end"},
		{1, "signature S = sig datatype t = A of ", "", "a", " t", " end"},
		{1, "signature S = sig exception E of ", "", "a", " t", " end"},
		{1, "structure S : sig val x : ", "", "a", " t", " end = T"},
	} {
		at := func(k int) (int, api.Mishap) {
			source := nested(k, x.before, x.ahead, x.middle, x.behind, x.after)
			l, m := syntax.Parse(source)
			if m.Code == api.OK {
				reads(t, source, l...)
			}
			return depthOf(reflect.ValueOf(l)), m
		}
		one, _ := at(1)
		two, _ := at(2)
		if two-one != x.adds {
			t.Errorf("%+v: from %d to %d", x, one, two)
		}
		k := (api.MaxDepth-one)/x.adds + 1
		if d, m := at(k); m.Code != api.OK || d > api.MaxDepth || d <= api.MaxDepth-x.adds {
			t.Errorf("%+v, %d times: %v, depth %d", x, k, m, d)
		}
		if d, m := at(k + 1); m != (api.Mishap{Code: api.ErrDepth}) || d != 0 {
			t.Errorf("%+v, %d times: %v", x, k+1, m)
		}
	}
	// Whichever declaration it is.
	deep := nested(200, "val x = ", "raise ", "a", "", "")
	refused(t, "val x = 1 "+deep, api.ErrDepth, 0)
	refused(t, deep+" val x = 1", api.ErrDepth, 0)
}

// P4.1: what counts nothing may be as deep, and as much, as a text has room for.
func TestNoDepth(t *testing.T) {
	const many = 32000
	open, shut := strings.Repeat("(", many), strings.Repeat(")", many)
	reads(t, "val x = "+open+"a"+shut, val(pvar("x"), v("a")))
	reads(t, "val "+open+"x"+shut+" = a", val(pvar("x"), v("a")))
	reads(t, "type t = "+open+"a"+shut, typeDec(nil, "t", tcon("a")))
	half := strings.Repeat("(", many/2)
	reads(t, "val x = "+half+"raise "+half+"a"+shut, val(pvar("x"), raise(v("a"))))
	for _, source := range []string{
		"val x = [a" + strings.Repeat(",a", many) + "]",
		"val x = (a" + strings.Repeat(";a", many) + ")",
		"val [a" + strings.Repeat(",a", many) + "] = 1",
		"type t = int" + strings.Repeat("*t", many),
		"fun f 1 = 1" + strings.Repeat("|f 1=1", 10000),
		"fun f 1 = 1" + strings.Repeat(" and f 1=1", 6000),
		"fun f" + strings.Repeat(" _", many) + " = 1",
		"val x = fn 1 => 1" + strings.Repeat("|1=>1", 10000),
		"datatype t = A" + strings.Repeat("|A", many),
		"datatype t = A" + strings.Repeat(" and t=A", 8000),
		"infix" + strings.Repeat(" a", many),
		strings.Repeat("val x=1 ", 8192),
		"signature S = sig " + strings.Repeat("exception E ", 5000) + "end",
	} {
		l, m := syntax.Parse(source)
		if m.Code != api.OK {
			t.Fatalf("%.40q: %v", source, m)
		}
		reads(t, source, l...)
	}
}

// R1: texts that are nested as deep as there is room end well, too.
func TestDeepTexts(t *testing.T) {
	for _, x := range []struct {
		before, ahead string
		code          api.Errno
	}{
		{"val x=", "(", api.ErrEnd}, {"val x=", "[", api.ErrEnd}, {"val x=", "{a=", api.ErrEnd}, {"val x=", "f(", api.ErrEnd},
		{"val x=", "if(", api.ErrEnd}, {"val x=", "raise ", api.ErrEnd}, {"val x=", "fn _=>", api.ErrEnd}, {"val x=", "let val x=", api.ErrEnd},
		{"val x=", "1+(", api.ErrEnd}, {"val x=", "a orelse ", api.ErrEnd}, {"val x=", "a andalso(", api.ErrEnd}, {"val x=", "case[", api.ErrEnd},
		{"val ", "(", api.ErrEnd}, {"val ", "[", api.ErrEnd}, {"val ", "{a=", api.ErrEnd}, {"val ", "a as ", api.ErrEnd}, {"val ", "a(", api.ErrEnd},
		{"type t=", "(", api.ErrEnd}, {"type t=", "{a:", api.ErrEnd}, {"type t=", "a->", api.ErrEnd}, {"type t=", "a*(", api.ErrEnd},
		{"", "structure A=struct ", api.ErrEnd},
	} {
		k := (api.MaxSource - len(x.before)) / len(x.ahead)
		source := x.before + strings.Repeat(x.ahead, k)
		refused(t, source, x.code, len(source))
	}
	refused(t, "val x="+strings.Repeat("[", 32000)+strings.Repeat("]", 32000), api.ErrDepth, 0)
	refused(t, "val x=a"+strings.Repeat("::a", 20000), api.ErrDepth, 0)
	refused(t, "val x=a"+strings.Repeat("+a", 32000), api.ErrDepth, 0)
	refused(t, "val x=a"+strings.Repeat(" a", 32000), api.ErrDepth, 0)
	refused(t, "val x=a"+strings.Repeat(":a", 32000), api.ErrDepth, 0)
	refused(t, "type t=a"+strings.Repeat("->a", 20000), api.ErrDepth, 0)
	refused(t, "type t=a"+strings.Repeat(" a", 32000), api.ErrDepth, 0)
}
