package elab_test

import (
	"reflect"
	"strconv"
	"strings"
	"testing"

	"smithy/api"
)

// shapesOf are the shapes of all rows of a term, as texts; of each case all rows, and behind them what it raises where none
// fits.
func shapesOf(c *api.Core) []string {
	var out []string
	if c.Kind == api.CoreCase {
		s := ""
		for i := range c.Rows {
			s += shapeText(&c.Rows[i].S) + " | "
		}
		out = append(out, s+raisedText(&c.Kids[1]))
	}
	for i := range c.Kids {
		out = append(out, shapesOf(&c.Kids[i])...)
	}
	for i := range c.Rows {
		out = append(out, shapesOf(&c.Rows[i].E)...)
	}
	return out
}

func shapeText(s *api.Shape) string {
	n := strconv.Itoa(s.N) + "/" + strconv.Itoa(s.Span)
	var kids []string
	for i := range s.Kids {
		kids = append(kids, shapeText(&s.Kids[i]))
	}
	switch s.Kind {
	case api.ShapeAny:
		return "_"
	case api.ShapeInt:
		return "int"
	case api.ShapeText:
		return strconv.Quote(s.Text)
	case api.ShapeSmall:
		return n
	case api.ShapeExn:
		return "exn(" + strings.Join(kids, " ") + ")"
	}
	return "[" + strings.Join(append([]string{n}, kids...), " ") + "]"
}

// raisedText is which built-in exception a term raises, or again if it raises what a name holds.
func raisedText(c *api.Core) string {
	switch {
	case c.Kind != api.CoreRaise:
		return "?"
	case c.Kids[0].Kind == api.CoreVar:
		return "again"
	}
	return strings.Fields("Match Bind")[c.Kids[0].Kids[0].N]
}

// P8.1: patterns become shapes, of which there is one for each rule, with how many there are of their kind: by these it can be
// told whether something always fits, and which rules are never taken (chapter 9).
func TestShapes(t *testing.T) {
	const ahead = "datatype t = A | B of int | C of t * t datatype u = U datatype v = V of int exception E exception F of int structure S = struct datatype t = X of int | Y | Z end "
	for _, r := range []struct {
		program string
		want    []string
	}{
		{"fun f [] = 0 | f [x] = x | f [] = 1", []string{"0/2 | [1/2 [0/1 _ 0/2]] | 0/2 | Match"}},
		{"fun g true = 1 | g false = 2", []string{"1/2 | 0/2 | Match"}},
		{"val f = fn 0 => 1 | 0 => 2", []string{"int | int | Match"}},
		{"fun f A = 0 | f (B n) = n | f (C (_, A)) = 1 | f (C (x, y)) = 2", []string{"0/3 | [1/3 _] | [2/3 [0/1 _ 0/3]] | [2/3 [0/1 _ _]] | Match"}},
		{"fun f U = 0 | f U = 1", []string{"0/1 | 0/1 | Match"}},
		{"fun f (V 1) = 0 | f (V _) = 1", []string{"[0/1 int] | [0/1 _] | Match"}},
		{"fun f (S.X n) = 0 | f S.Y = 1 | f S.Z = 2", []string{"[0/3 _] | 1/3 | 2/3 | Match"}},
		{`fun f #"a" = 0 | f #"\255" = 1 | f x = 2`, []string{"97/256 | 255/256 | _ | Match"}},
		{`fun f "a" = 0 | f x = 2`, []string{`"a" | _ | Match`}},
		{"fun f x = 1 | f y = 2", []string{"_ | _ | Match"}},
		{"fun f x y = 1 | f y x = 2 | f _ _ = 3", []string{"_ | _ | _ | Match"}},
		{"fun f x true = 1 | f 0 x = 2", []string{"[0/1 _ 1/2] | [0/1 int _] | Match"}},
		{"val f = fn x => 1 | 2 => 3", []string{"_ | int | Match"}},
		{"val f = fn {b = 1, a = true} => 1 | {a = _, b = _} => 2", []string{"[0/1 1/2 int] | [0/1 _ _] | Match"}},
		{"val x = case 1 of 1 => 2 | _ => (case 2 of 3 => 4)", []string{"int | _ | Match", "int | Match"}},
		{"val x :: y = [1]", []string{"[1/2 [0/1 _ _]] | Bind"}},
		{"val (x, y) = (1, 2) val 1 = x", []string{"[0/1 _ _] | Bind", "int | Bind"}},
		{"val x = 1 handle E => 2 | F 1 => 3 | Div => 4 | F n => n", []string{"exn(_) | exn(int) | exn(_) | exn(_) | again"}},
		{"val x = 1 handle Div => 2", []string{"exn(_) | again"}},
		{"val x = 1 val _ = 2 val y : int = 3 val () = ()", nil},
		{"fun f x y = x fun g () = 1 val h = fn x => x val z = h handle _ => h val w = case z of x => x", []string{"_ | Match", "[0/1] | Match", "_ | Match", "_ | again", "_ | Match"}},
	} {
		c := made(t, typed(t, ahead+r.program))
		if got := shapesOf(&c); !reflect.DeepEqual(got, r.want) {
			t.Errorf("%s\n got  %q\n want %q", r.program, got, r.want)
		}
	}
}
