package source

import (
	"plantwright/api"
	"plantwright/tokens"
)

// expr: an expression; depth is its own.
func (r reader) expr(depth int) api.Expr {
	return r.binary(loosest, depth)
}

// binary: operators of that level and of tighter ones, the operands from left to right.
func (r reader) binary(level, depth int) api.Expr {
	if level > tightest {
		return r.unary(depth)
	}
	left := r.binary(level+1, depth)
	for r.IsClass(tokens.Mark) && levelOf(opOf(r.Now.Text)) == level {
		t := r.Take()
		right := r.binary(level+1, depth)
		left = api.Expr{Form: api.Bin, Op: opOf(t.Text), At: t.At, Kids: []api.Expr{left, right}}
	}
	return left
}

func (r reader) unary(depth int) api.Expr {
	r.needBegin()
	if depth > api.MaxDeep {
		r.GiveUp(api.ErrDeep, r.Now.At)
	}
	switch {
	case r.beginsLiteral():
		return r.literal()
	case !r.Is("not", "-"):
		return r.basic(depth)
	}
	t := r.Take()
	op := api.Not
	if t.Text == "-" {
		op = api.Neg
	}
	return api.Expr{Form: api.Un, Op: op, At: t.At, Kids: []api.Expr{r.unary(depth + 1)}}
}

// needBegin: an expression has to begin here.
func (r reader) needBegin() {
	if !r.beginsLiteral() && !r.beginsName() && !r.Is("not", "-", "(") {
		r.GiveUp(api.ErrText, r.Now.At)
	}
}

// beginsName: a max is a name only if it is called.
func (r reader) beginsName() bool {
	return r.IsClass(tokens.Name) || r.Is("max") && r.isAhead(tokens.Mark, "(")
}

func (r reader) beginsLiteral() bool {
	return r.IsClass(tokens.Number) || r.IsClass(tokens.Span) || r.Is("true", "false") || r.Is("-") && r.isAhead(tokens.Number, "")
}

// isAhead: does such a token stand behind the one that is to be read?
func (r reader) isAhead(c tokens.Class, text string) bool {
	t := r.Next()
	return t.Class == c && t.Text == text
}

func (r reader) literal() api.Expr {
	e := api.Expr{Form: api.Lit, At: r.Look().At}
	switch {
	case r.Is("true", "false"):
		e.Kind = api.Bool
		if r.Take().Text == "true" {
			e.N = 1
		}
	case r.IsClass(tokens.Span):
		e.Kind = api.Time
		e.N = r.Take().N
	default:
		e.N = r.constant()
	}
	return e
}

// basic: what is neither a literal nor behind an operator.
func (r reader) basic(depth int) api.Expr {
	t := r.Take()
	if t.Text == "(" {
		e := r.expr(depth + 1)
		r.Need(")")
		return e
	}
	e := api.Expr{Form: api.Ref, Name: t.Text, At: t.At}
	switch {
	case r.Took("["):
		e.Form = api.Item
		e.Kids = []api.Expr{r.expr(depth + 1)}
		r.Need("]")
	case r.Took("."):
		e.Form = api.Part
		e.Part = r.NeedName()
	case r.Took("("):
		e.Form = api.Call
		e.Kids = r.given(depth + 1)
	}
	return e
}

// given: the arguments of a function, behind the bracket.
func (r reader) given(depth int) []api.Expr {
	var given []api.Expr
	for more := true; more; more = r.Need(",", ")").Text == "," {
		r.needBegin()
		if len(given) == api.MaxArgs {
			r.GiveUp(api.ErrSize, r.Now.At)
		}
		given = append(given, r.expr(depth))
	}
	return given
}
