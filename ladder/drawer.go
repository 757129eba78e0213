package ladder

import (
	"strconv"

	"plantwright/api"
	"plantwright/tokens"
)

// drawer draws the rungs that it reads: it puts down what comes of them as soon as it was read, and so tells the first fault of the text.
type drawer struct {
	reader
	vars     []api.Var
	shown    int // how many of vars are not hidden
	body     []api.Stmt
	rungs    int
	rungAt   int // here and below: of the rung that is drawn
	contacts int
	nest     int
}

func (d *drawer) unit() api.Unit {
	first := d.Need("ladder")
	name := d.NeedName()
	d.vars = d.Heads()
	d.shown = len(d.vars)
	for d.Is("rung") {
		d.rung(d.Take().At)
	}
	d.Need("end_ladder")
	d.NeedClass(tokens.Ending)
	return api.Unit{Kind: api.Program, Name: name, Vars: d.vars, Body: d.body, At: first.At}
}

func (d *drawer) put(list ...api.Stmt) {
	d.body = append(d.body, list...)
}

// hide: the name of one hidden variable more, for which the token at a place asks.
func (d *drawer) hide(v api.Var, at int) string {
	if len(d.vars) == api.MaxVars {
		d.GiveUp(api.ErrSize, at)
	}
	v.Name = "%" + strconv.Itoa(len(d.vars)-d.shown)
	v.Role = api.Own
	d.vars = append(d.vars, v)
	return v.Name
}

func (d *drawer) rung(at int) {
	if d.rungs == api.MaxRungs {
		d.GiveUp(api.ErrSize, at)
	}
	if d.rungs == 0 {
		d.hide(api.Var{Kind: api.Bool}, at)
	}
	d.rungs++
	d.rungAt, d.contacts = at, 0
	way := d.way()
	d.Need("=>")
	d.put(set(power, way, at))
	d.coils()
}

func (d *drawer) way() api.Expr {
	return d.joined(api.And, d.step, func() bool { return d.Is("[", "(") })
}

// joined: parts, joined two at a time while there is one more.
func (d *drawer) joined(op api.Op, part func() api.Expr, more func() bool) api.Expr {
	left := part()
	for more() {
		at := d.Look().At
		right := part()
		left = api.Expr{Form: api.Bin, Op: op, At: at, Kids: []api.Expr{left, right}}
	}
	return left
}

func (d *drawer) step() api.Expr {
	if d.Is("[") {
		return d.contact()
	}
	d.needShallow(d.Need("(").At)
	d.nest++
	e := d.joined(api.Or, d.way, func() bool { return d.Took(",") })
	d.nest--
	d.Need(")")
	return e
}

// needShallow: what begins at a place may not stand in too many brackets.
func (d *drawer) needShallow(at int) {
	if d.nest > api.MaxNest {
		d.GiveUp(api.ErrDeep, at)
	}
}

func (d *drawer) contact() api.Expr {
	block := edgeOf(d.Next())
	at := d.Take().At
	if d.contacts == api.MaxContacts {
		d.GiveUp(api.ErrSize, at)
	}
	d.contacts++
	instance := ""
	if block != "" {
		instance = d.hide(api.Var{Of: block}, at)
	}
	d.needShallow(at)
	sign := d.sign("/", "<", ">")
	what := d.what()
	d.Need("]")
	switch sign {
	case "":
		return placed(what, at)
	case "/":
		return not(placed(what, at))
	}
	d.put(pulse(instance, placed(what, d.rungAt)))
	return pulsed(instance, at)
}

// edgeOf: the block that looks for the edge which a contact's sign tells of; none, if it is not the sign of an edge.
func edgeOf(t tokens.Token) string {
	switch t.Text {
	case ">":
		return rising
	case "<":
		return falling
	}
	return ""
}
