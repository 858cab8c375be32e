package opt

// Sorts of values. What is 0 is not known.
const (
	anInt     = 'i'
	aSmall    = 'c'
	aTruth    = 't' // a small number that is 0 or 1
	aReal     = 'r'
	aText     = 's'
	aBlock    = 'b'
	aUnit     = 'u' // the block of tag 0 without fields
	aClosure  = 'f'
	aCell     = 'l'
	aVector   = 'w'
	someBytes = 'y'
	aList     = 'a' // a value is never known to be one
	anything  = 'v'
)

// What primitives do beside answering, if their arguments are of the sorts that they take.
const (
	isCalm = iota // nothing
	raises        // they may raise
	acts          // they change something, or end the run, but never raise
)

// sign is what is known of a primitive.
type sign struct {
	takes string // the sorts of its arguments
	gives byte   // the sort of its answer
	does  int
}

// signs are those of all primitives.
func signs() map[string]sign {
	return map[string]sign{
		"add": {"ii", anInt, raises}, "sub": {"ii", anInt, raises}, "mul": {"ii", anInt, raises},
		"div": {"ii", anInt, raises}, "mod": {"ii", anInt, raises}, "neg": {"i", anInt, raises},
		"lt": {"ii", aTruth, isCalm}, "le": {"ii", aTruth, isCalm}, "itext": {"i", aText, raises},
		"radd": {"rr", aReal, isCalm}, "rsub": {"rr", aReal, isCalm}, "rmul": {"rr", aReal, isCalm},
		"rdiv": {"rr", aReal, isCalm}, "rneg": {"r", aReal, isCalm}, "rlt": {"rr", aTruth, isCalm},
		"rle": {"rr", aTruth, isCalm}, "rfromint": {"i", aReal, isCalm}, "rfloor": {"r", anInt, raises},
		"rbits": {"r", anInt, isCalm}, "cat": {"ss", aText, raises}, "size": {"s", anInt, isCalm},
		"ssub": {"si", aSmall, raises}, "substring": {"sii", aText, raises}, "slt": {"ss", aTruth, isCalm},
		"sle": {"ss", aTruth, isCalm}, "clt": {"cc", aTruth, isCalm}, "cle": {"cc", aTruth, isCalm},
		"chr": {"i", aSmall, raises}, "ord": {"c", anInt, isCalm}, "str": {"c", aText, isCalm},
		"eq": {"vv", aTruth, isCalm}, "ref": {"v", aCell, isCalm}, "get": {"l", 0, isCalm},
		"set": {"lv", aUnit, acts}, "same": {"ll", aTruth, isCalm}, "vector": {"a", aVector, isCalm},
		"vlen": {"w", anInt, isCalm}, "vsub": {"wi", 0, raises}, "bnew": {"i", someBytes, raises},
		"blen": {"y", anInt, isCalm}, "bget": {"yi", anInt, raises}, "bset": {"yii", aUnit, raises},
		"print": {"s", aUnit, acts}, "eprint": {"s", aUnit, acts}, "inputline": {"v", aText, raises},
		"readfile": {"s", aText, raises}, "writefile": {"ss", aUnit, raises}, "exit": {"i", aUnit, acts},
	}
}

// fits tells whether a value that is known to be of a sort is of one that a primitive takes.
func fits(takes, sort byte) bool {
	switch takes {
	case anything:
		return true
	case aSmall:
		return isSmall(sort)
	}
	return sort == takes
}

func isSmall(sort byte) bool { return sort == aSmall || sort == aTruth }
