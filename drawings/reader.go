// Package drawings: what the texts of ladders and of diagrams have in common, beside their tokens: the parts that units have, too.
package drawings

import (
	"plantwright/api"
	"plantwright/source"
	"plantwright/tokens"
)

// Reader reads those parts of a drawing's text that are read as in a unit's.
type Reader struct {
	*tokens.Reader
}

// Heads: the variables of the heads that stand here.
func (r Reader) Heads() []api.Var {
	vars, end, fault := source.Heads(r.Text, r.Now.At)
	r.goOn(end, fault)
	return vars
}

// Expression: the expression that stands here, and has to.
func (r Reader) Expression() api.Expr {
	e, end, fault := source.Expression(r.Text, r.Now.At)
	r.goOn(end, fault)
	return e
}

// goOn goes behind what was read elsewhere, if nothing is wrong with it.
func (r Reader) goOn(end int, fault api.Fault) {
	if fault.Code != api.OK {
		r.GiveUp(fault.Code, fault.At)
	}
	r.GoTo(end)
}
