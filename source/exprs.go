package source

import "plantwright/api"

// expr: an expression; depth is its own.
func (r *reader) expr(depth int) api.Expr {
	return r.binary(loosest, depth)
}

// binary: operators of that level and of tighter ones, the operands from left to right.
func (r *reader) binary(level, depth int) api.Expr {
	if level > tightest {
		return r.unary(depth)
	}
	left := r.binary(level+1, depth)
	for r.isClass(mark) && levelOf(opOf(r.now.text)) == level {
		t := r.take()
		right := r.binary(level+1, depth)
		left = api.Expr{Form: api.Bin, Op: opOf(t.text), At: t.at, Kids: []api.Expr{left, right}}
	}
	return left
}

func (r *reader) unary(depth int) api.Expr {
	r.needBegin()
	if depth > api.MaxDeep {
		r.giveUp(api.ErrDeep, r.now.at)
	}
	switch {
	case r.beginsLiteral():
		return r.literal()
	case !r.is("not", "-"):
		return r.basic(depth)
	}
	t := r.take()
	op := api.Not
	if t.text == "-" {
		op = api.Neg
	}
	return api.Expr{Form: api.Un, Op: op, At: t.at, Kids: []api.Expr{r.unary(depth + 1)}}
}

// needBegin: an expression has to begin here.
func (r *reader) needBegin() {
	if !r.beginsLiteral() && !r.beginsName() && !r.is("not", "-", "(") {
		r.giveUp(api.ErrText, r.now.at)
	}
}

// beginsName: a max is a name only if it is called.
func (r *reader) beginsName() bool {
	return r.isClass(name) || r.is("max") && r.isAhead(mark, "(")
}

func (r *reader) beginsLiteral() bool {
	return r.isClass(number) || r.isClass(span) || r.is("true", "false") || r.is("-") && r.isAhead(number, "")
}

// isAhead: does such a token stand behind the one that is to be read?
func (r *reader) isAhead(c class, text string) bool {
	t := r.next()
	return t.class == c && t.text == text
}

func (r *reader) literal() api.Expr {
	e := api.Expr{Form: api.Lit, At: r.look().at}
	switch {
	case r.is("true", "false"):
		e.Kind = api.Bool
		if r.take().text == "true" {
			e.N = 1
		}
	case r.isClass(span):
		e.Kind = api.Time
		e.N = r.take().n
	default:
		e.N = r.constant()
	}
	return e
}

// basic: what is neither a literal nor behind an operator.
func (r *reader) basic(depth int) api.Expr {
	t := r.take()
	if t.text == "(" {
		e := r.expr(depth + 1)
		r.need(")")
		return e
	}
	e := api.Expr{Form: api.Ref, Name: t.text, At: t.at}
	switch {
	case r.took("["):
		e.Form = api.Item
		e.Kids = []api.Expr{r.expr(depth + 1)}
		r.need("]")
	case r.took("."):
		e.Form = api.Part
		e.Part = r.name()
	case r.took("("):
		e.Form = api.Call
		e.Kids = r.given(depth + 1)
	}
	return e
}

// given: the arguments of a function, behind the bracket.
func (r *reader) given(depth int) []api.Expr {
	var given []api.Expr
	for more := true; more; more = r.need(",", ")").text == "," {
		r.needBegin()
		if len(given) == api.MaxArgs {
			r.giveUp(api.ErrSize, r.now.at)
		}
		given = append(given, r.expr(depth))
	}
	return given
}
