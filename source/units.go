package source

import "plantwright/api"

func (r *reader) text() []api.Unit {
	var units []api.Unit
	for len(units) == 0 || !r.isClass(ending) {
		units = append(units, r.unit())
		r.whole++
	}
	return units
}

func (r *reader) unit() api.Unit {
	first := r.need("program", "function", "function_block")
	if r.whole == api.MaxUnits {
		r.giveUp(api.ErrSize, first.at)
	}
	u := api.Unit{Kind: unitOf(first.text), Name: r.name(), At: first.at}
	if u.Kind == api.Function {
		r.need(":")
		u.Result = r.kind()
	}
	u.Vars = r.heads()
	u.Body = r.list(inUnit)
	r.need("end_" + first.text)
	return u
}

func (r *reader) kind() api.Kind {
	return kindOf(r.need("bool", "int", "dint", "word", "time").text)
}

func (r *reader) heads() []api.Var {
	var vars []api.Var
	for r.is("var", "var_input", "var_output", "var_external") {
		role := r.role()
		for r.isClass(name) {
			vars = r.declared(vars, role)
		}
		r.need("end_var")
	}
	return vars
}

func (r *reader) role() api.Role {
	role := roleOf(r.take().text)
	if role == api.Own && r.took("retain") {
		return api.Keep
	}
	return role
}

// declared: the variables, and behind them those of a declaration.
func (r *reader) declared(vars []api.Var, role api.Role) []api.Var {
	before := len(vars)
	for more := true; more; more = r.took(",") {
		t := r.needClass(name)
		if len(vars) == api.MaxVars {
			r.giveUp(api.ErrSize, t.at)
		}
		vars = append(vars, api.Var{Name: t.text, Role: role, At: t.at})
	}
	r.need(":")
	like := r.typed()
	if r.took(":=") {
		like.Init = r.literal()
	}
	r.need(";")
	for i := before; i < len(vars); i++ {
		vars[i].Kind, vars[i].Of, vars[i].Low, vars[i].Len, vars[i].Init = like.Kind, like.Of, like.Low, like.Len, like.Init
	}
	return vars
}

// typed: a variable without a name, of the type that stands here.
func (r *reader) typed() api.Var {
	if r.isClass(name) {
		return api.Var{Of: r.name()}
	}
	if !r.is("array") {
		return api.Var{Kind: r.kind()}
	}
	r.take()
	r.need("[")
	low := r.constant()
	r.need("..")
	high := r.constantOf(func(n int) bool { return lengthFits(n - low + 1) })
	r.need("]")
	r.need("of")
	return api.Var{Kind: r.kind(), Low: low, Len: high - low + 1}
}

// lengthFits: may an array have so many elements?
func lengthFits(length int) bool {
	return length >= 1 && length <= api.MaxLen
}
