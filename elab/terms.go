package elab

import (
	"slices"

	"smithy/api"
)

// Tags of the blocks that a list is made of, as a datatype's with two constructors, and of records.
const (
	tagEnd    = 0
	tagCons   = 1
	tagRecord = 0
)

// How many there are of what a shape looks at.
const (
	spanList   = 2
	spanTruth  = 2
	spanRecord = 1
	spanChar   = 256
)

func variable(name string) api.Core { return api.Core{Kind: api.CoreVar, Name: name} }

func small(n int) api.Core { return api.Core{Kind: api.CoreSmall, N: n} }

func truth(is bool) api.Core {
	if is {
		return small(1)
	}
	return small(0)
}

func fn(name string, body api.Core) api.Core {
	return api.Core{Kind: api.CoreFn, Name: name, Kids: []api.Core{body}}
}

func app(f, arg api.Core) api.Core {
	return api.Core{Kind: api.CoreApp, Kids: []api.Core{f, arg}}
}

func let(name string, is, within api.Core) api.Core {
	return api.Core{Kind: api.CoreLet, Name: name, Kids: []api.Core{is, within}}
}

func block(tag int, fields ...api.Core) api.Core {
	if len(fields) == 0 {
		fields = nil
	}
	return api.Core{Kind: api.CoreBlock, N: tag, Kids: fields}
}

func unit() api.Core { return block(tagRecord) }

func record(fields []api.Core) api.Core { return block(tagRecord, fields...) }

func field(place int, of api.Core) api.Core {
	return api.Core{Kind: api.CoreField, N: place, Kids: []api.Core{of}}
}

func choice(condition, is, isNot api.Core) api.Core {
	return api.Core{Kind: api.CoreIf, Kids: []api.Core{condition, is, isNot}}
}

func primitive(name string, args ...api.Core) api.Core {
	return api.Core{Kind: api.CorePrim, Name: name, Kids: args}
}

func raise(c api.Core) api.Core {
	return api.Core{Kind: api.CoreRaise, Kids: []api.Core{c}}
}

// exception is an exception's value, of its cell; of one without an argument 0 stands for that.
func exception(cell, arg api.Core) api.Core { return block(tagRecord, cell, arg) }

// raiseBuiltIn raises the built-in exception of that number.
func raiseBuiltIn(number int) api.Core {
	return raise(exception(api.Core{Kind: api.CoreExn, N: number}, small(0)))
}

// list is the list of terms.
func list(items []api.Core) api.Core {
	c := small(tagEnd)
	for _, item := range slices.Backward(items) {
		c = block(tagCons, block(tagRecord, item, c))
	}
	return c
}

// cases is what comes of the first row that a value fits, or otherwise.
func cases(of, otherwise api.Core, rows []api.Row) api.Core {
	return api.Core{Kind: api.CoreCase, Kids: []api.Core{of, otherwise}, Rows: rows}
}
