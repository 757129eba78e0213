package ladder

import (
	"plantwright/api"
	"plantwright/source"
	"plantwright/tokens"
)

// reader reads what a ladder's text is made of.
type reader struct {
	*tokens.Reader
}

// heads: the variables of the heads that stand here.
func (r reader) heads() []api.Var {
	vars, end, fault := source.Heads(r.Text, r.Now.At)
	r.goOn(end, fault)
	return vars
}

// expression: the expression that stands here, and has to.
func (r reader) expression() api.Expr {
	e, end, fault := source.Expression(r.Text, r.Now.At)
	r.goOn(end, fault)
	return e
}

// goOn goes behind what was read elsewhere, if nothing is wrong with it.
func (r reader) goOn(end int, fault api.Fault) {
	if fault.Code != api.OK {
		r.GiveUp(fault.Code, fault.At)
	}
	r.GoTo(end)
}

// sign: the one of these signs that stands here, if one does.
func (r reader) sign(signs ...string) string {
	if !r.Is(signs...) {
		return ""
	}
	return r.Take().Text
}

// what: the variable, or the output, that stands in a contact.
func (r reader) what() api.Expr {
	e := api.Expr{Form: api.Ref, Name: r.NeedName()}
	if r.Took(".") {
		e.Form = api.Part
		e.Part = r.NeedName()
	}
	return e
}
