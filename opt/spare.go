package opt

import "smithy/api"

// place is a parameter of a function.
type place struct{ f, i int }

// needs are the parameters that are needed.
type needs struct {
	needed map[place]struct{}
	todo   []place           // those of which it has not yet been told on that they are
	hang   map[place][]place // those that are needed where another one is, as they are handed on to it
}

// need says that a parameter is needed.
func (s *needs) need(x place) {
	if _, is := s.needed[x]; !is {
		s.needed[x] = struct{}{}
		s.todo = append(s.todo, x)
	}
}

// spread says so of all that hang on those that are needed.
func (s *needs) spread() {
	for len(s.todo) > 0 {
		last := len(s.todo) - 1
		x := s.todo[last]
		s.todo = s.todo[:last]
		for _, y := range s.hang[x] {
			s.need(y)
		}
	}
}

// function looks at what the parameters of a function are needed for.
func (s *needs) function(i int, f *function) {
	params := map[int]int{}
	for j, v := range f.params {
		params[v] = j
		if !isSteady(v) {
			s.need(place{i, j})
		}
	}
	f.body.each(func(n *node) {
		if g, args, does := n.calls(); does {
			for j, a := range *args {
				if at, is := params[a.V]; is && isLocal(a) {
					s.hang[place{*g, j}] = append(s.hang[place{*g, j}], place{i, at})
				}
			}
			return
		}
		for _, l := range [][]api.Atom{{n.A}, n.Args, n.Op.Args} {
			for _, a := range l {
				if at, is := params[a.V]; is && isLocal(a) {
					s.need(place{i, at})
				}
			}
		}
	})
}

// spare leaves out parameters that nothing needs: that are not read, or only handed on to such ones. A function of which there are
// closures keeps all of its parameters; what it is called with by its number is a constant then.
func (p *program) spare() {
	s := &needs{needed: map[place]struct{}{}, hang: map[place][]place{}}
	applied := map[int]struct{}{}
	for i, f := range p.funs {
		s.function(i, f)
	}
	s.spread()
	p.throughout(func(_ int, n *node) {
		if n.isClosure() {
			applied[n.Op.F] = struct{}{}
		}
	})
	p.throughout(func(_ int, n *node) {
		if g, args, does := n.calls(); does {
			_, keeps := applied[*g]
			*args = s.args(*g, *args, keeps)
		}
	})
	for i, f := range p.funs {
		if _, keeps := applied[i]; !keeps {
			f.params = s.params(i, f.params)
		}
	}
}

// args are the arguments of a call from which those are left out that nothing needs; if the function keeps all of its
// parameters, there stand constants instead.
func (s *needs) args(f int, l []api.Atom, keeps bool) []api.Atom {
	var out []api.Atom
	for i, a := range l {
		if _, is := s.needed[place{f, i}]; is {
			out = append(out, a)
		} else if keeps {
			out = append(out, smallNumber(0))
		}
	}
	return out
}

// params are the parameters of a function that something needs.
func (s *needs) params(f int, l []int) []int {
	var out []int
	for i, v := range l {
		if _, is := s.needed[place{f, i}]; is {
			out = append(out, v)
		}
	}
	return out
}
