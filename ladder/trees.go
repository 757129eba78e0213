package ladder

import "plantwright/api"

// power: the hidden variable that has a rung's power.
const power = "%0"

// The blocks that look for edges, and their pins.
const (
	rising  = "r_trig"
	falling = "f_trig"
	clock   = "clk"
	edge    = "q"
)

func placed(e api.Expr, at int) api.Expr {
	e.At = at
	return e
}

func powered(at int) api.Expr {
	return api.Expr{Form: api.Ref, Name: power, At: at}
}

func truth(n, at int) api.Expr {
	return api.Expr{Form: api.Lit, Kind: api.Bool, N: n, At: at}
}

func not(e api.Expr) api.Expr {
	return api.Expr{Form: api.Un, Op: api.Not, At: e.At, Kids: []api.Expr{e}}
}

// pulsed: what an edge's instance tells.
func pulsed(instance string, at int) api.Expr {
	return api.Expr{Form: api.Part, Name: instance, Part: edge, At: at}
}

// pulse: an edge's instance looks at an expression; all of it stands where that does.
func pulse(instance string, e api.Expr) api.Stmt {
	return api.Stmt{Verb: api.Invoke, At: e.At, Name: instance, Args: []api.Arg{{Name: clock, E: e, At: e.At}}}
}

func set(name string, e api.Expr, at int) api.Stmt {
	return api.Stmt{Verb: api.Set, At: at, Name: name, E: []api.Expr{e}}
}

func when(e api.Expr, s api.Stmt) api.Stmt {
	return api.Stmt{Verb: api.If, At: e.At, Arms: []api.Arm{{E: e, Body: []api.Stmt{s}}}}
}
