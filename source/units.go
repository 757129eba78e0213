package source

import (
	"plantwright/api"
	"plantwright/tokens"
)

func (r reader) text() []api.Unit {
	var units []api.Unit
	for len(units) == 0 || !r.IsClass(tokens.Ending) {
		units = append(units, r.unit())
		r.Whole++
	}
	return units
}

func (r reader) unit() api.Unit {
	first := r.Need("program", "function", "function_block")
	if r.Whole == api.MaxUnits {
		r.GiveUp(api.ErrSize, first.At)
	}
	u := api.Unit{Kind: unitOf(first.Text), Name: r.NeedName(), At: first.At}
	if u.Kind == api.Function {
		r.Need(":")
		u.Result = r.kind()
	}
	u.Vars = r.heads()
	u.Body = r.list(inUnit)
	r.Need("end_" + first.Text)
	return u
}

func (r reader) kind() api.Kind {
	return kindOf(r.Need("bool", "int", "dint", "word", "time").Text)
}

func (r reader) heads() []api.Var {
	var vars []api.Var
	for r.Is("var", "var_input", "var_output", "var_external") {
		role := r.role()
		for r.IsClass(tokens.Name) {
			vars = r.declared(vars, role)
		}
		r.Need("end_var")
	}
	return vars
}

func (r reader) role() api.Role {
	role := roleOf(r.Take().Text)
	if role == api.Own && r.Took("retain") {
		return api.Keep
	}
	return role
}

// declared: the variables, and behind them those of a declaration.
func (r reader) declared(vars []api.Var, role api.Role) []api.Var {
	before := len(vars)
	for more := true; more; more = r.Took(",") {
		t := r.NeedClass(tokens.Name)
		if len(vars) == api.MaxVars {
			r.GiveUp(api.ErrSize, t.At)
		}
		vars = append(vars, api.Var{Name: t.Text, Role: role, At: t.At})
	}
	r.Need(":")
	like := r.typed()
	if r.Took(":=") {
		like.Init = r.literal()
	}
	r.Need(";")
	for i := before; i < len(vars); i++ {
		vars[i].Kind, vars[i].Of, vars[i].Low, vars[i].Len, vars[i].Init = like.Kind, like.Of, like.Low, like.Len, like.Init
	}
	return vars
}

// typed: a variable without a name, of the type that stands here.
func (r reader) typed() api.Var {
	if r.IsClass(tokens.Name) {
		return api.Var{Of: r.NeedName()}
	}
	if !r.Is("array") {
		return api.Var{Kind: r.kind()}
	}
	r.Take()
	r.Need("[")
	low := r.constant()
	r.Need("..")
	high := r.constantOf(func(n int) bool { return lengthFits(n - low + 1) })
	r.Need("]")
	r.Need("of")
	return api.Var{Kind: r.kind(), Low: low, Len: high - low + 1}
}

// lengthFits: may an array have so many elements?
func lengthFits(length int) bool {
	return length >= 1 && length <= api.MaxLen
}
