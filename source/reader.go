package source

import (
	"plantwright/api"
	"plantwright/tokens"
)

// reader reads what the grammar of units has.
type reader struct {
	*tokens.Reader
}

// constant: a number with or without a sign.
func (r reader) constant() int {
	return r.constantOf(func(int) bool { return true })
}

// constantOf: a number with or without a sign that has to fit.
func (r reader) constantOf(fits func(n int) bool) int {
	sign := 1
	if r.Took("-") {
		sign = -1
	}
	return r.numberOf(sign, fits)
}

func (r reader) numberOf(sign int, fits func(n int) bool) int {
	t := r.NeedClass(tokens.Number)
	if !fits(sign * t.N) {
		r.GiveUp(api.ErrRange, t.At)
	}
	return sign * t.N
}
