package data

import (
	"slices"

	"smithy/api"
	"smithy/build"
)

// body is what is known of a function's body: its nodes are numbered as they stand, each ahead of its kids. What a local is set to in
// one place is a value of its own; but within the first two kids of a try a local that was set ahead of it stays the same value, which
// is set again: nobody knows behind the try which of both it is.
type body struct {
	ends  []int    // of each node the last one that stands below it
	first []int    // of each node where what it reads begins
	reads []int    // the values that atoms are, below 0 if one is no local
	sets  [][2]int // of each node the values that it sets: V, W
	uses  [][]int  // of each value the nodes that read it
}

// bodyReader reads a body.
type bodyReader struct {
	*body
	now   []int // of each local the value that it is, below 0 if it is not set
	about int   // how many tries there are about a node, that it is in the first or second kid of
	made  []int // of each value how many there were about the node that sets it first
}

// none is no value: what no local is, or what is in no try.
const none = -1

// read reads a function's body. The locals must be none, and are so behind it.
func read(f *api.Func, locals []int) *body {
	r := &bodyReader{body: &body{}, now: locals}
	for i := range f.Params {
		locals[i] = r.value()
	}
	r.flow(&f.Body)
	for i := range f.Params {
		locals[i] = none
	}
	return r.body
}

// value is a new one.
func (r *bodyReader) value() int {
	r.uses, r.made = append(r.uses, nil), append(r.made, r.about)
	return len(r.made) - 1
}

func (r *bodyReader) flow(f *api.Flow) {
	at := len(r.ends)
	r.ends, r.first, r.sets = append(r.ends, at), append(r.first, len(r.reads)), append(r.sets, [2]int{none, none})
	atoms(f, func(a *api.Atom) { r.atom(a, at) })
	switch f.Kind {
	case api.FlowLet:
		r.below(&f.Kids[0], at, 0, f.V)
	case api.FlowTry:
		r.about++
		r.flow(&f.Kids[0])
		r.below(&f.Kids[1], at, 0, f.V)
		r.about--
		r.below(&f.Kids[2], at, 1, f.W)
	default:
		for i := range f.Kids {
			r.flow(&f.Kids[i])
		}
	}
	r.ends[at] = len(r.ends) - 1
}

// atoms tells those that a node reads, in order.
func atoms(f *api.Flow, tell func(a *api.Atom)) {
	list := f.Args
	switch f.Kind {
	case api.FlowRet, api.FlowRaise, api.FlowIf, api.FlowSwitch:
		tell(&f.A)
		return
	case api.FlowGo:
		tell(&f.A)
	case api.FlowLet:
		list = f.Op.Args
	case api.FlowTry:
		return
	}
	for i := range list {
		tell(&list[i])
	}
}

func (r *bodyReader) atom(a *api.Atom, at int) {
	if len(r.reads) >= api.MaxData/build.WordBytes { // each atom takes a word of the data, or an instruction
		panic(tooLong{})
	}
	x := none
	if a.Kind == api.AtomVar {
		x = r.now[a.V]
		if n := len(r.uses[x]); n == 0 || r.uses[x][n-1] != at {
			r.uses[x] = append(r.uses[x], at)
		}
	}
	r.reads = append(r.reads, x)
}

// below reads a node ahead of which another one, at, sets a local.
func (r *bodyReader) below(f *api.Flow, at, which, local int) {
	before := r.now[local]
	x := before
	if x == none || r.made[x] == r.about {
		x = r.value()
	}
	r.now[local], r.sets[at][which] = x, x
	r.flow(f)
	r.now[local] = before
}

// read is the value that the i-th atom of a node is.
func (b *body) read(at, i int) int { return b.reads[b.first[at]+i] }

// readBy are the values that a node reads.
func (b *body) readBy(at int) []int {
	if at+1 == len(b.first) {
		return b.reads[b.first[at]:]
	}
	return b.reads[b.first[at]:b.first[at+1]]
}

// isRead tells whether one of some nodes reads a value, the last one, too.
func (b *body) isRead(x, from, to int) bool {
	i, _ := slices.BinarySearch(b.uses[x], from)
	return i < len(b.uses[x]) && b.uses[x][i] <= to
}
