package match_test

import (
	"reflect"
	"strconv"
	"strings"
	"testing"

	"smithy/api"
	"smithy/core"
	"smithy/match"
)

// rowsOf are rows of shapes that are written with | between them.
func rowsOf(text string) []api.Row {
	var rows []api.Row
	for _, s := range strings.Split(text, "|") {
		if strings.TrimSpace(s) != "" {
			r := &reader{words: words(s)}
			rows = append(rows, api.Row{S: r.shape(), E: api.Core{Kind: api.CoreSmall}})
		}
	}
	return rows
}

// caseOf is a case of rows, where d and e hold cells.
func caseOf(rows ...api.Row) api.Core {
	small := api.Core{Kind: api.CoreSmall}
	c := api.Core{Kind: api.CoreCase, Kids: []api.Core{small, small}, Rows: rows}
	for _, name := range []string{"e", "d"} {
		c = api.Core{Kind: api.CoreLet, Name: name, Kids: []api.Core{{Kind: api.CoreExn}, c}}
	}
	return c
}

// warned is what Warnings tells of a term, as a text: case:row of each.
func warned(t testing.TB, c api.Core) string {
	t.Helper()
	list, e := match.Warnings(c)
	if e != api.OK {
		t.Fatalf("%.300s: %v", shown(c), e)
	}
	var out []string
	for _, w := range list {
		out = append(out, strconv.Itoa(w.Case)+":"+strconv.Itoa(w.Row))
	}
	return strings.Join(out, " ")
}

// P9.2: rows that are never taken, and cases that are not exhaustive, by shapes of every kind; and how many questions that takes.
func TestShapes(t *testing.T) {
	for _, r := range []struct {
		rows, want string
		asked      int
	}{
		{"", "-1", 2},
		{"_", "", 2 + 2},
		{"x", "", 2 + 2},
		{"_ | x", "1", 2 + 2 + 2},
		{"x | 7 | _", "1 2", 2 + 2 + 2 + 2},
		// integers
		{"7", "-1", 2 + 2},
		{"7 | 7", "1 -1", 6},
		{"7 | ~7 | 0 | 7 | y@ ~7 | x | 0", "3 4 6", 16},
		{"123456789012345678901234567890 | 123456789012345678901234567891 | 123456789012345678901234567890 | 4294967296 | ~4294967296", "2 -1", 12},
		{"1 | 257 | 65537 | 16777217 | 4294967297 | ~1 | 0", "-1", 16},
		// texts
		{`"a" | "" | "b" | "a" | ""`, "3 4 -1", 12},
		{`"a" | _ | "b"`, "2", 8},
		// exceptions: a cell is known by its name
		{`{e _}`, "-1", 3 + 2},
		{`{e _} | {d _} | {e _} | {d 1}`, "2 3 -1", 3 + 3 + 3 + 3 + 2},
		{`{e 1} | {e 2} | {e 1} | {e x} | {e 3} | _ | {d _}`, "2 4 6", 3 + 3 + 3 + 3 + 3 + 2 + 3 + 2},
		// small numbers
		{"#0/1", "", 2 + 2},
		{"#0/1 | #0/1 | _", "1 2", 2 + 2 + 2 + 2},
		{"#0/2", "-1", 2 + 2},
		{"#0/2 | #1/2", "", 2 + 2 + 3},
		{"#1/2 | #0/2 | #1/2 | _", "2 3", 2 + 2 + 2 + 3 + 3},
		{"#0/3 | #2/3 | _ | #1/3", "3", 2 + 2 + 2 + 2 + 4},
		{"#0/3 | #2/3 | #1/3", "", 2 + 2 + 2 + 4},
		{"#5/1073741824 | #5/1073741824", "1 -1", 2 + 2 + 2},
		// blocks
		{"[0/1]", "", 2 + 2},
		{"[0/1 _ x]", "", 4 + 4},
		{"[0/1 1 _]", "-1", 4 + 4},
		{"[0/1 1 _] | [0/1 _ 1] | [0/1 1 1] | [0/1 2 2]", "2 -1", 4 + 4 + 4 + 4 + 4},
		{"[1/2 _] | #0/2", "", 3 + 2 + 4},
		{"[1/2 _] | _ | #0/2", "2", 3 + 2 + 2 + 4},
		{"[1/2 #0/2] | [1/2 #1/2] | #0/2", "", 3 + 3 + 2 + 5},
		{"[1/2 #0/2] | [1/2 #1/2] | [1/2 _] | #0/2 | #0/2", "2 4", 3 + 3 + 4 + 2 + 2 + 5},
		{"#0/2 | [1/2 [0/1 _ #0/2]] | #0/2", "2 -1", 2 + 5 + 2 + 6},
		{"[0/1 #0/2 #0/2] | [0/1 #1/2 #1/2] | [0/1 #0/2 #1/2] | [0/1 #1/2 #0/2] | [0/1 _ _]", "4", 4 + 4 + 4 + 4 + 8 + 8},
		{"[0/1 #0/2 _] | [0/1 _ #0/2] | [0/1 #1/2 #1/2]", "", 4 + 4 + 4 + 7},
		{"[0/1 _ #0/2] | [0/1 #0/2 _] | [0/1 #1/2 #1/2] | [0/1 _ #1/2]", "3", 4 + 4 + 4 + 4 + 2 + 8},
		// blocks of one tag with other numbers of kids, small numbers and blocks of one number
		{"[0/1 _] | [0/1 _ _] | [0/1 _]", "2", 3 + 4 + 3 + 6},
		{"[0/2 _] | [0/2 _ _] | [1/2]", "", 3 + 4 + 2 + 7},
		{"[0/2 _] | [0/2 _ _]", "-1", 3 + 4 + 2},
		{"#0/1 | [0/1]", "", 2 + 2 + 3},
		{"#0/2 | [0/2 _]", "-1", 2 + 3 + 2},
		{"#0/2 | [0/2 _] | [1/2] | #0/2 | [0/2 _]", "3 4", 2 + 3 + 2 + 2 + 3 + 5},
		{"#1/2 | [1/2] | #0/2 | #1/2", "3", 2 + 2 + 2 + 2 + 4},
		// the first one's span
		{"#0/2 | #1/3", "", 2 + 2 + 3},
		{"#1/3 | #0/2", "-1", 2 + 2 + 2},
		{"_ | #1/3 | #0/2 | _", "1 2 3", 2 + 2 + 2 + 2 + 2},
		// kinds that don't go together
		{"7 | #0/1", "-1", 2 + 2 + 2},
		{"#0/1 | 7", "", 2 + 2 + 3},
		{`#0/1 | "a" | 7 | {e 1}`, "-1", 2 + 2 + 2 + 3 + 6},
		{`#0/1 | "a" | {e 1} | 7`, "-1", 2 + 2 + 3 + 2 + 5},
		// names change nothing
		{"x@ #0/2 | y@ [1/2 z@ 7] | u@ [1/2 w] | v@ [1/2 7]", "3", 2 + 3 + 3 + 3 + 4},
		{"[0/1 x [0/1 y@ 1 z]] | a@ [0/1 1 b@ [0/1 1 2]] | c@ [0/1 d _]", "1", 6 + 6 + 6 + 6},
	} {
		c := caseOf(rowsOf(r.rows)...)
		want := ""
		for _, w := range strings.Fields(r.want) {
			want += " 0:" + w
		}
		if got := warned(t, c); got != strings.TrimSpace(want) {
			t.Errorf("%s: %s, not %s", r.rows, got, r.want)
		}
		if got := match.Asked(c); got != r.asked {
			t.Errorf("%s: %d questions, not %d", r.rows, got, r.asked)
		}
		switched(t, c)
	}
}

// marked is a case of which so many rows are never taken.
func marked(many int) api.Core {
	small := api.Core{Kind: api.CoreSmall}
	c := api.Core{Kind: api.CoreCase, Kids: []api.Core{small, small}}
	for range many + 1 {
		c.Rows = append(c.Rows, api.Row{S: api.Shape{Kind: api.ShapeAny}, E: small})
	}
	return c
}

// P9.2: cases are numbered as they are met: in each place of a term where one may stand, and in one another.
func TestNumbers(t *testing.T) {
	letters := map[string]api.Core{}
	for i := range 6 {
		letters[string(rune('a'+i))] = marked(i + 1)
	}
	for text, want := range map[string]string{
		"$a":                         "0:a",
		"(fn x $b)":                  "0:b",
		"($b $a)":                    "0:b 1:a",
		"(let x $b $a)":              "0:b 1:a",
		"(rec (f (fn x $b)) $a)":     "0:b 1:a",
		"[3 $c $b $a]":               "0:c 1:b 2:a",
		"(field 3 $a)":               "0:a",
		"(if $c $b $a)":              "0:c 1:b 2:a",
		"(switch $d 5: $c 0: $b $a)": "0:d 1:c 2:b 3:a",
		"(raise $a)":                 "0:a",
		"(handle $b x $a)":           "0:b 1:a",
		"(substring $c $b $a)":       "0:c 1:b 2:a",
		"(rec (f (fn x (let y $d $c))) (g (fn z $b)) (raise $a))": "0:d 1:c 2:b 3:a",
		// a case is ahead of what stands in it: what it looks at, its rows, what comes where none fits
		"(case $b $a)":                                     "0:-1 1:b 2:a",
		"(case $d (| _ $c) (| _ $b) $a)":                   "0:1 1:d 2:c 3:b 4:a",
		"(case #0 (| #0/2 $b) (| #0/2 $a) #1)":             "0:1 0:-1 1:b 2:a",
		"(case (case $c (| x $b) $a) (| _ $d) (| _ $e) 1)": "0:1 1: 2:c 3:b 4:a 5:d 6:e",
		"(case 1 (| 1 (case 2 (| 2 $a) $b)) (| _ (case 3 $c)) (case $d (| _ $e) 4))": "0: 1:-1 2:a 3:b 4:-1 5:c 6: 7:d 8:e",
		"(let x (case 1 (| 1 1) 1) (fn y [0 $a (case $b (| 1 1) 1)]))":               "0:-1 1:a 2:-1 3:b",
	} {
		if strings.HasPrefix(want, "0: ") {
			want = strings.TrimPrefix(want, "0: ")
		}
		got := warned(t, termWith(t, text, letters))
		if want := expanded(want); got != want {
			t.Errorf("%s:\n got  %s\n want %s", text, got, want)
		}
	}
}

// expanded is what is warned of where letters stand for the cases that marked has made.
func expanded(want string) string {
	var out []string
	for _, w := range strings.Fields(want) {
		number, what, _ := strings.Cut(w, ":")
		if what == "" {
			continue
		}
		if what[0] < 'a' {
			out = append(out, w)
			continue
		}
		for i := range int(what[0]-'a') + 1 {
			out = append(out, number+":"+strconv.Itoa(i+1))
		}
	}
	return strings.Join(out, " ")
}

// P9.2: programs, by what stands in their texts.
func TestPrograms(t *testing.T) {
	const ahead = "datatype t = A | B of t | C datatype u = U of int exception E exception F of int "
	for program, want := range map[string]string{
		"fun f x = case x of 0 => (case x of 1 => 2) | _ => 3":                                                           "2:-1",
		"fun f (A, _) = 1 | f (B _, C) = 2 | f (B x, A) = 3 | f (B _, B _) = 4 | f (C, _) = 5":                           "",
		"fun f (A, _) = 1 | f (B _, C) = 2 | f (B x, A) = 3 | f (C, _) = 5 | f (C, A) = 6":                               "0:4 0:-1",
		"val f = fn E => 1 | F _ => 2 | E => 3 | _ => 4":                                                                 "0:2",
		"val f = fn E => 1 | F 1 => 2 | F 1 => 3 | F n => n | F 2 => 4":                                                  "0:2 0:4 0:-1",
		"val x = 1 handle E => 2 | F n => n":                                                                             "0:-1",
		"val x = 1 handle E => 2 | e => 3 | F n => n":                                                                    "0:2",
		"fun f 1 2 = 3 | f x 2 = 4 | f 1 y = 5 | f 1 2 = 6 | f x y = 7 | f _ 3 = 8":                                      "0:3 0:5",
		"fun f x = 1 and g 1 = 2 | g _ = 3 and h [] = 1":                                                                 "2:-1",
		"val [x, y] = [1, 2] val (U n) = U 3 val (a, b) = (1, 2) val (A, z) = (A, 1)":                                    "0:-1 3:-1",
		"fun f (U 1) = 1 | f (U n) = n | f (U 2) = 3 | f x = 4":                                                          "0:2 0:3",
		`fun f #"a" = 1 | f #"b" = 2 | f #"a" = 3 | f _ = 4 fun g "a" = 1 | g "b" = 2 | g "a" = 3`:                       "0:2 1:2 1:-1",
		"fun f {a = true, b = _} = 1 | f {b = true, a = _} = 2 | f {a = false, b = false} = 3 | f {a = true, b = _} = 4": "0:3",
		"fun f (x :: y :: l) = 1 | f [x] = 2 | f [x, y] = 3 | f [] = 4":                                                  "0:2",
		"structure S = struct fun f true = 1 end fun g false = 1 val h = let fun i () = 1 val 1 = 2 in fn () => 1 end":   "0:-1 1:-1 3:-1",
		"val f = fn () => fn true => 1":                                                                                  "1:-1",
		"":                                                                                                               "",
	} {
		if got := warned(t, termOf(t, ahead+program)); got != want {
			t.Errorf("%s: %s, not %s", program, got, want)
		}
	}
}

// casesOf is a row of cases, each of them in a block's fields, or blocks of these.
func casesOf(l []api.Core) api.Core {
	for len(l) > api.MaxArity {
		var less []api.Core
		for len(l) > 0 {
			n := min(len(l), 500)
			less = append(less, api.Core{Kind: api.CoreBlock, Kids: l[:n:n]})
			l = l[n:]
		}
		l = less
	}
	return api.Core{Kind: api.CoreBlock, Kids: l}
}

// repeated is a case of rows, so many times.
func repeated(many int, rows string) []api.Core {
	small := api.Core{Kind: api.CoreSmall}
	var l []api.Core
	for range many {
		l = append(l, api.Core{Kind: api.CoreCase, Kids: []api.Core{small, small}, Rows: rowsOf(rows)})
	}
	return l
}

// longs is what comes of a term with more questions than may be asked.
func long(t *testing.T, c api.Core) bool {
	t.Helper()
	list, e := match.Warnings(c)
	s, other, e2 := match.Switches(c)
	if e != e2 || !reflect.DeepEqual(list, other) {
		t.Errorf("%v and %v, %d and %d warnings", e, e2, len(list), len(other))
	}
	if e == api.OK {
		return false
	}
	if e != api.ErrLong || list != nil || other != nil || !reflect.DeepEqual(s, api.Core{}) {
		t.Errorf("%v, %d and %d warnings, %.100s", e, len(list), len(other), shown(s))
	}
	return true
}

// P9.2: just as many questions as may be, and one more: in one case, and in many of them together.
func TestMaxMatch(t *testing.T) {
	t.Parallel()
	ints := func(n int) string {
		return many(n, "|", strconv.Itoa) // 2 questions each, and 2 at the end
	}
	bools := func(columns int) string { // 2 more than columns for each, and for all once more and once again, but for the first one
		row := func(value string) string { return "[0/1" + strings.Repeat(" "+value, columns) + "]" }
		return row("#0/2") + "|" + row("#1/2") + "|" + row("_")
	}
	const deep = "[1/2 _]" // 3 questions, and 2 at the end
	for i, r := range []struct {
		c    api.Core
		want int
	}{
		{casesOf(repeated(api.MaxMatch/2, "")), api.MaxMatch},
		{casesOf(repeated(api.MaxMatch/2+1, "")), api.MaxMatch + 1},
		{casesOf(append(repeated(api.MaxMatch/2-3, ""), repeated(1, deep)...)), api.MaxMatch - 1},
		{casesOf(append(repeated(api.MaxMatch/2-5, ""), repeated(2, deep)...)), api.MaxMatch},
		{casesOf(append(repeated(api.MaxMatch/2-2, ""), repeated(1, deep)...)), api.MaxMatch + 1},
		{casesOf(repeated(api.MaxMatch/5, deep)), api.MaxMatch},
		{casesOf(repeated(api.MaxMatch/4, "_")), api.MaxMatch},
		{casesOf(append(repeated(api.MaxMatch/4, "_"), repeated(1, "")...)), api.MaxMatch + 1},
		{caseOf(rowsOf(ints(api.MaxMatch/2 - 1))...), api.MaxMatch},
		{caseOf(rowsOf(ints(api.MaxMatch / 2))...), api.MaxMatch + 1},
		{caseOf(rowsOf(ints(api.MaxMatch/2-3) + "|" + deep)...), api.MaxMatch - 1},
		{casesOf(append(repeated(1, ints(api.MaxMatch/2-6)), repeated(2, deep)...)), api.MaxMatch},
		{casesOf(append(repeated(1, ints(api.MaxMatch/2-3)), repeated(1, deep)...)), api.MaxMatch + 1},
		{caseOf(rowsOf(bools(1000))...), 1002 + 1002 + 1002 + (1002 + 1000)},
		{casesOf(append(append(repeated(3, bools(1000)), repeated(1, bools(700)+"|_")...), repeated(33, "")...)), 3*5008 + 3*702 + 2*(702+700) + 2*33},
		{casesOf(append(append(repeated(3, bools(1000)), repeated(1, bools(700)+"|_")...), repeated(34, "")...)), api.MaxMatch + 1},
	} {
		if asked := match.Asked(r.c); asked != r.want {
			t.Errorf("%d: %d questions, not %d", i, asked, r.want)
		}
		if core.Check(r.c) != api.OK {
			t.Errorf("%d may not be", i)
		}
		if long(t, r.c) != (r.want > api.MaxMatch) {
			t.Errorf("%d: %d questions", i, r.want)
		}
	}
}
