package cell

import (
	"math/bits"

	"plantwright/api"
)

// Result: what kind an operation answers.
func Result(op api.Op, k api.Kind) api.Kind {
	switch {
	case !has(op, k):
		return api.None
	case compares(op):
		return api.Bool
	}
	return k
}

// Second: what kind an operation's second operand has.
func Second(op api.Op, k api.Kind) api.Kind {
	if !has(op, k) {
		return api.None
	}
	switch op {
	case api.Not, api.Neg, api.Abs:
		return api.None
	case api.Shl, api.Shr, api.Rol, api.Ror:
		return api.Int
	}
	return k
}

// Do: an operation's answer; true: it divided by nought.
func Do(op api.Op, k api.Kind, a, b int) (int, bool) {
	if !has(op, k) {
		return 0, false
	}
	a, b = Wrap(k, a), Wrap(Second(op, k), b)
	if b == 0 && (op == api.Div || op == api.Mod) {
		return 0, true
	}
	return Wrap(Result(op, k), work(op, a, b)), false
}

func has(op api.Op, k api.Kind) bool {
	number := k == api.Int || k == api.Dint
	switch op {
	case api.Mul, api.Div, api.Mod, api.Neg, api.Abs:
		return number
	case api.Add, api.Sub:
		return number || k == api.Time
	case api.Lt, api.Le, api.Gt, api.Ge, api.Min, api.Max:
		return number || k == api.Time || k == api.Word
	case api.And, api.Or, api.Xor, api.Not:
		return k == api.Bool || k == api.Word
	case api.Shl, api.Shr, api.Rol, api.Ror:
		return k == api.Word
	case api.Eq, api.Ne:
		return isKind(k)
	}
	return false
}

func compares(op api.Op) bool {
	return op >= api.Eq && op <= api.Ge
}

// work is given operands that are wrapped: no product of two leaves 64 bits then, and no quotient.
func work(op api.Op, a, b int) int {
	switch op {
	case api.Shl, api.Shr, api.Rol, api.Ror:
		return shift(op, a, max(b, 0))
	case api.And, api.Or, api.Xor, api.Not:
		return mask(op, a, b)
	}
	if compares(op) {
		return truth(holds(op, a, b))
	}
	return reckon(op, a, b)
}

func reckon(op api.Op, a, b int) int {
	switch op {
	case api.Add:
		return a + b
	case api.Sub:
		return a - b
	case api.Mul:
		return a * b
	case api.Div:
		return a / b
	case api.Mod:
		return a % b
	case api.Min:
		return min(a, b)
	case api.Max:
		return max(a, b)
	case api.Neg:
		return -a
	}
	// Abs is the only one left.
	return max(a, -a)
}

func mask(op api.Op, a, b int) int {
	switch op {
	case api.And:
		return a & b
	case api.Or:
		return a | b
	case api.Xor:
		return a ^ b
	}
	return ^a
}

func holds(op api.Op, a, b int) bool {
	switch op {
	case api.Eq:
		return a == b
	case api.Ne:
		return a != b
	case api.Lt:
		return a < b
	case api.Le:
		return a <= b
	case api.Gt:
		return a > b
	}
	return a >= b
}

func truth(b bool) int {
	if b {
		return 1
	}
	return 0
}

// shift moves all bits out by itself where the count is great, and goes round by the count modulo 16; its count is not below 0.
func shift(op api.Op, a, count int) int {
	switch op {
	case api.Shl:
		return a << count
	case api.Shr:
		return a >> count
	case api.Rol:
		return int(bits.RotateLeft16(uint16(a), count))
	}
	return int(bits.RotateLeft16(uint16(a), -count))
}
