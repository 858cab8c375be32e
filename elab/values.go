package elab

import (
	"smithy/api"
	"smithy/front"
)

// value is the term of a name that stands alone.
func (m *maker) value(v meaning) api.Core {
	if v.isFunction() {
		return m.function(func(arg api.Core) api.Core { return m.applied(v, arg) })
	}
	switch v.sort {
	case sortVariable:
		return variable(v.name)
	case sortConstructor:
		return small(v.number)
	case sortException, sortBuiltIn:
		return exception(cell(v), small(0))
	}
	return api.Core{}
}

// applied is what a constructor, an exception, a primitive makes of its argument.
func (m *maker) applied(v meaning, arg api.Core) api.Core {
	switch v.sort {
	case sortConstructor:
		return block(v.number, arg)
	case sortPrimitive:
		return m.primitive(v.primitive, arg)
	}
	return exception(cell(v), arg)
}

// cell is the cell of an exception.
func cell(v meaning) api.Core {
	if v.sort == sortBuiltIn {
		return api.Core{Kind: api.CoreExn, N: v.number}
	}
	return variable(v.name)
}

// primitive is what a primitive makes of its argument. A record of several that is only made for it need not be made.
func (m *maker) primitive(v front.Value, arg api.Core) api.Core {
	switch {
	case v.Many == 1:
		return primitive(v.Primitive, arg)
	case arg.Kind == api.CoreBlock && len(arg.Kids) == v.Many:
		return m.ofArgs(v, arg.Kids)
	}
	return m.named(arg, "arg", func(name string) api.Core {
		args := make([]api.Core, v.Many)
		for i := range v.Many {
			args[i] = field(i, variable(name))
		}
		return m.ofArgs(v, args)
	})
}

// ofArgs is what a primitive makes of several arguments.
func (m *maker) ofArgs(v front.Value, args []api.Core) api.Core {
	places := make([]int, len(args))
	for i := range places {
		places[i] = i
		if v.Turned {
			places[i] = len(args) - 1 - i
		}
	}
	return m.laid(args, places, func(args []api.Core) api.Core {
		c := primitive(v.Primitive, args...)
		if v.Opposite {
			return choice(c, truth(false), truth(true))
		}
		return c
	})
}
