package source_test

import (
	"math"
	"math/bits"
	"strings"

	"smithy/api"
)

// first is what the oracle knows at first.
func (o *oracle) first() known {
	k := known{"false": constructed(0, false), "true": constructed(1, false), "nil": constructed(0, false), "::": constructed(1, true)}
	for _, name := range []string{"Match", "Bind", "Div", "Subscript", "Size", "Io", "Domain", "Chr"} {
		o.exns[name] = &thing{kind: 'k', kids: []*thing{str(name)}}
		k[name] = excepted(o.exns[name], false)
	}
	ones := map[string]func(v *thing) *thing{
		"ref": func(v *thing) *thing { return &thing{kind: 'k', kids: []*thing{v}} }, "!": func(v *thing) *thing { return v.kids[0] },
		"print": o.print, "size": func(v *thing) *thing { return num(int64(len(v.s))) }, "str": func(v *thing) *thing { return str(string([]byte{byte(v.n)})) },
		"ord": func(v *thing) *thing { return num(v.n) }, "chr": o.chr, "inputLine": o.line, "readFile": o.read, "exit": o.exit,
		"Int.toString": o.show, "Real.fromInt": func(v *thing) *thing { return float(float64(v.n)) }, "Real.floor": o.floor, "Real.bits": o.bits,
		"Vector.fromList": o.vector, "Vector.length": func(v *thing) *thing { return num(int64(len(v.kids))) },
		"Bytes.new": o.bytes, "Bytes.length": func(v *thing) *thing { return num(int64(len(v.s))) },
		"~int": func(v *thing) *thing { return o.checked(-v.n, v.n != math.MinInt64) }, "~real": func(v *thing) *thing { return float(-v.r) },
	}
	for name, f := range ones {
		k[name] = entry{v: &thing{kind: 'f', call: func(o *oracle, v *thing) { o.answer(f(v)) }}}
	}
	for name, f := range o.ofMany() {
		k[name] = entry{v: &thing{kind: 'f', call: func(o *oracle, v *thing) { o.answer(f(v.kids)) }}}
	}
	return k
}

// answer goes on with a value, unless something else came of it.
func (o *oracle) answer(v *thing) {
	if v != nil && !o.over {
		o.ret(v)
	}
}

func (o *oracle) checked(n int64, fine bool) *thing {
	o.lost = o.lost || !fine
	return num(n)
}

func (o *oracle) thrown(name string) *thing {
	o.raise(name)
	return nil
}

func (o *oracle) ofMany() map[string]func(a []*thing) *thing {
	m := map[string]func(a []*thing) *thing{
		"=": func(a []*thing) *thing { return yes(o.equal(a[0], a[1])) }, "<>": func(a []*thing) *thing { return yes(!o.equal(a[0], a[1])) },
		"+int": func(a []*thing) *thing { return o.checked(a[0].n+a[1].n, (a[0].n+a[1].n >= a[0].n) == (a[1].n >= 0)) },
		"-int": func(a []*thing) *thing { return o.checked(a[0].n-a[1].n, (a[0].n-a[1].n <= a[0].n) == (a[1].n >= 0)) },
		"*int": o.times, "div": o.div, "mod": o.mod, "^": func(a []*thing) *thing { return o.made(a[0].s + a[1].s) },
		":=":     func(a []*thing) *thing { a[0].kids[0] = a[1]; return blk(0) },
		"+real":  func(a []*thing) *thing { return float(a[0].r + a[1].r) },
		"-real":  func(a []*thing) *thing { return float(a[0].r - a[1].r) },
		"*real":  func(a []*thing) *thing { return float(a[0].r * a[1].r) },
		"/":      func(a []*thing) *thing { return float(a[0].r / a[1].r) },
		"<real":  func(a []*thing) *thing { return yes(a[0].r < a[1].r) },
		"<=real": func(a []*thing) *thing { return yes(a[0].r <= a[1].r) },
		">real":  func(a []*thing) *thing { return yes(a[0].r > a[1].r) },
		">=real": func(a []*thing) *thing { return yes(a[0].r >= a[1].r) },
		"writeFile": func(a []*thing) *thing {
			switch {
			case a[0].s == "" || len(a[0].s) > 255 || strings.Contains(a[0].s, "\x00"):
				return o.thrown("Io")
			case o.spend(len(a[1].s) / 64):
				o.files[a[0].s] = a[1].s
				o.out.Trace = append(o.out.Trace, api.Event{Kind: api.EventWrite, Name: a[0].s, Text: a[1].s})
			}
			return blk(0)
		},
		"String.sub": func(a []*thing) *thing {
			return o.at1(a, len(a[0].s), func(i int64) *thing { return little(int64(a[0].s[i])) })
		},
		"Vector.sub": func(a []*thing) *thing { return o.at1(a, len(a[0].kids), func(i int64) *thing { return a[0].kids[i] }) },
		"Bytes.get": func(a []*thing) *thing {
			return o.at1(a, len(a[0].s), func(i int64) *thing { return num(int64(a[0].s[i])) })
		},
		"Bytes.put": func(a []*thing) *thing {
			return o.at1(a, len(a[0].s), func(i int64) *thing { return put(a[0], i, byte(a[2].n)) })
		},
		"String.substring": o.substring,
	}
	for _, kind := range []string{"int", "char", "string"} {
		m["<"+kind] = func(a []*thing) *thing { return yes(ahead(a[0], a[1])) }
		m[">"+kind] = func(a []*thing) *thing { return yes(ahead(a[1], a[0])) }
		m["<="+kind] = func(a []*thing) *thing { return yes(!ahead(a[1], a[0])) }
		m[">="+kind] = func(a []*thing) *thing { return yes(!ahead(a[0], a[1])) }
	}
	return m
}

func ahead(a, b *thing) bool { return a.n < b.n || a.s < b.s }

func put(b *thing, i int64, x byte) *thing {
	b.s = b.s[:i] + string([]byte{x}) + b.s[i+1:]
	return blk(0)
}

func (o *oracle) at1(a []*thing, many int, get func(i int64) *thing) *thing {
	if a[1].n < 0 || a[1].n >= int64(many) {
		return o.thrown("Subscript")
	}
	return get(a[1].n)
}

func (o *oracle) substring(a []*thing) *thing {
	s, i, n := a[0].s, a[1].n, a[2].n
	if i < 0 || n < 0 || i > int64(len(s)) || n > int64(len(s)) || i+n > int64(len(s)) {
		return o.thrown("Subscript")
	}
	return o.made(s[i : i+n])
}

func (o *oracle) times(a []*thing) *thing {
	high, _ := bits.Mul64(uint64(max(a[0].n, -a[0].n)), uint64(max(a[1].n, -a[1].n)))
	n := a[0].n * a[1].n
	return o.checked(n, high == 0 && (n == 0 || (n < 0) == ((a[0].n < 0) != (a[1].n < 0))))
}

func (o *oracle) div(a []*thing) *thing {
	if a[1].n == 0 {
		return o.thrown("Div")
	}
	return num(int64((a[0].n - below(a[0].n, a[1].n)) / a[1].n))
}

func (o *oracle) mod(a []*thing) *thing {
	if a[1].n == 0 {
		return o.thrown("Div")
	}
	return num(below(a[0].n, a[1].n))
}

// below is the rest that has the divisor's sign.
func below(a, b int64) int64 {
	r := a % b
	if r != 0 && (r < 0) != (b < 0) {
		r += b
	}
	return r
}

func (o *oracle) made(s string) *thing {
	if len(s) > api.MaxString {
		return o.thrown("Size")
	}
	o.spend(len(s) / 64)
	return str(s)
}

func (o *oracle) print(v *thing) *thing {
	if o.spend(len(v.s) / 64) {
		o.say(api.EventOut, "", v.s)
	}
	return blk(0)
}

func (o *oracle) chr(v *thing) *thing {
	if v.n < 0 || v.n > 255 {
		return o.thrown("Chr")
	}
	return little(v.n)
}

func (o *oracle) line(*thing) *thing {
	line, rest, found := strings.Cut(o.input, "\n")
	if found {
		line += "\n"
	}
	o.input = rest
	return o.made(line)
}

func (o *oracle) read(v *thing) *thing {
	s, is := o.files[v.s]
	if !is || len(s) > api.MaxString {
		return o.thrown("Io")
	}
	return o.made(s)
}

func (o *oracle) exit(v *thing) *thing {
	o.end(api.Exited, int(below(v.n, 256)))
	return nil
}

func (o *oracle) show(v *thing) *thing {
	digits, n := "", v.n
	for {
		d := n % 10
		digits = string(rune('0'+max(d, -d))) + digits
		if n /= 10; n == 0 {
			break
		}
	}
	if v.n < 0 {
		digits = "~" + digits
	}
	return o.made(digits)
}

func (o *oracle) floor(v *thing) *thing {
	if math.IsNaN(v.r) || math.IsInf(v.r, 0) {
		return o.thrown("Domain")
	}
	return o.checked(int64(math.Floor(v.r)), math.Abs(v.r) < 1<<62)
}

func (o *oracle) bits(v *thing) *thing {
	if v.r != v.r {
		return num(0x7FF8 << 48)
	}
	return o.checked(int64(math.Float64bits(v.r)), !math.Signbit(v.r))
}

func (o *oracle) vector(v *thing) *thing {
	out := &thing{kind: 'v'}
	for ; v.kind == 'b'; v = v.kids[0].kids[1] {
		out.kids = append(out.kids, v.kids[0].kids[0])
	}
	o.spend(len(out.kids) / 8)
	return out
}

func (o *oracle) bytes(v *thing) *thing {
	if v.n < 0 || v.n > api.MaxString {
		return o.thrown("Size")
	}
	o.spend(int(v.n) / 64)
	return &thing{kind: 'y', s: strings.Repeat("\x00", int(v.n))}
}

// equal goes through two values with a list of pairs that wait, the next one last.
func (o *oracle) equal(a, b *thing) bool {
	wait := [][2]*thing{{a, b}}
	for len(wait) > 0 && !o.over {
		a, b := wait[len(wait)-1][0], wait[len(wait)-1][1]
		wait = wait[:len(wait)-1]
		switch {
		case a.kind == 'k' || a.kind == 'y':
			if a != b {
				return false
			}
		case a.kind != b.kind, a.n != b.n && a.kind != 'b', a.s != b.s:
			return false
		case a.kind == 'b' || a.kind == 'v':
			if !o.spend(1) || a.n != b.n || len(a.kids) != len(b.kids) {
				return false
			}
			for i := len(a.kids) - 1; i >= 0; i-- {
				wait = append(wait, [2]*thing{a.kids[i], b.kids[i]})
			}
		}
	}
	return true
}
