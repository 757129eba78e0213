package ladder

import (
	"plantwright/api"
	"plantwright/drawings"
)

// reader reads what a ladder's text is made of.
type reader struct {
	drawings.Reader
}

// sign: the one of these signs that stands here, if one does.
func (r reader) sign(signs ...string) string {
	if !r.Is(signs...) {
		return ""
	}
	return r.Take().Text
}

// what: the variable, or the output, that stands in a contact.
func (r reader) what() api.Expr {
	e := api.Expr{Form: api.Ref, Name: r.NeedName()}
	if r.Took(".") {
		e.Form = api.Part
		e.Part = r.NeedName()
	}
	return e
}
