package source

import "plantwright/api"

var unitWords = [...]string{api.Program: "program", api.Function: "function", api.Block: "function_block"}

var kindWords = [...]string{api.Bool: "bool", api.Int: "int", api.Dint: "dint", api.Word: "word", api.Time: "time"}

var roleWords = [...]string{api.Own: "var", api.Input: "var_input", api.Output: "var_output", api.Extern: "var_external", api.Keep: "var retain"}

var opWords = [...]string{
	api.Or: "or", api.Xor: "xor", api.And: "and", api.Eq: "=", api.Ne: "<>",
	api.Lt: "<", api.Gt: ">", api.Le: "<=", api.Ge: ">=",
	api.Add: "+", api.Sub: "-", api.Mul: "*", api.Div: "/", api.Mod: "mod",
}

// How tightly binary operators bind; 0 is what an operation has that is none of them.
var opLevels = [...]int{
	api.Or: 1, api.Xor: 2, api.And: 3, api.Eq: 4, api.Ne: 4,
	api.Lt: 5, api.Gt: 5, api.Le: 5, api.Ge: 5,
	api.Add: 6, api.Sub: 6, api.Mul: 7, api.Div: 7, api.Mod: 7,
}

const (
	loosest  = 1
	tightest = 7
)

// levelOf an operation that is no binary operator is 0.
func levelOf(op api.Op) int {
	if op < 0 || int(op) >= len(opLevels) {
		return 0
	}
	return opLevels[op]
}

// opOf a sign or word that is no binary operator is 0.
func opOf(word string) api.Op {
	if word == "&" {
		return api.And
	}
	for op, w := range opWords {
		if w != "" && w == word {
			return api.Op(op)
		}
	}
	return 0
}

// kindOf a word that is no kind's is None.
func kindOf(word string) api.Kind {
	for k, w := range kindWords {
		if w != "" && w == word {
			return api.Kind(k)
		}
	}
	return api.None
}

func unitOf(word string) api.UnitKind {
	for k, w := range unitWords {
		if w == word {
			return api.UnitKind(k)
		}
	}
	return 0
}

func roleOf(word string) api.Role {
	for k, w := range roleWords {
		if w == word {
			return api.Role(k)
		}
	}
	return 0
}
