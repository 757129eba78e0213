package source

import (
	"plantwright/api"
	"plantwright/tokens"
)

// list: all statements that stand here; what has to stand behind them, its caller looks for.
func (r reader) list(depth int) []api.Stmt {
	var list []api.Stmt
	for r.beginsStmt() {
		if depth > api.MaxDeep {
			r.GiveUp(api.ErrDeep, r.Now.At)
		}
		list = append(list, r.stmt(depth))
	}
	return list
}

func (r reader) beginsStmt() bool {
	return r.IsClass(tokens.Name) || r.Is("if", "case", "for", "while", "repeat", "exit", "continue", "return")
}

// stmt: a statement of a list of that depth.
func (r reader) stmt(depth int) api.Stmt {
	var s api.Stmt
	at := r.Now.At
	switch {
	case r.IsClass(tokens.Name):
		s = r.named(depth + 1)
	case r.Took("if"):
		s = r.choice(depth + 1)
	case r.Took("case"):
		s = r.cases(depth + 1)
	case r.Took("for"):
		s = r.counted(depth + 1)
	case r.Took("while"):
		s = r.while(depth + 1)
	case r.Took("repeat"):
		s = r.repeat(depth + 1)
	case r.Took("exit"):
		s.Verb = api.Exit
	case r.Took("continue"):
		s.Verb = api.Next
	case r.Took("return"):
		s.Verb = api.Return
	}
	s.At = at
	r.Need(";")
	return s
}

// named: what begins with a name. Here and below depth is that of what stands in the statement.
func (r reader) named(depth int) api.Stmt {
	s := api.Stmt{Verb: api.Set, Name: r.NeedName()}
	switch r.Need(":=", "[", "(").Text {
	case ":=":
		s.E = []api.Expr{r.expr(depth)}
	case "[":
		s.Item = true
		index := r.expr(depth)
		r.Need("]")
		r.Need(":=")
		s.E = []api.Expr{r.expr(depth), index}
	case "(":
		s.Verb = api.Invoke
		s.Args = r.args(depth)
	}
	return s
}

// args: those of an instance, behind the bracket.
func (r reader) args(depth int) []api.Arg {
	var args []api.Arg
	if r.Took(")") {
		return args
	}
	expr := func() api.Expr { return r.expr(depth) }
	for more := true; more; more = r.Need(",", ")").Text == "," {
		args = append(args, r.NeedArg(len(args), expr))
	}
	return args
}

func (r reader) choice(depth int) api.Stmt {
	s := api.Stmt{Verb: api.If}
	last := "elsif"
	for last == "elsif" {
		e := r.expr(depth)
		r.Need("then")
		s.Arms = append(s.Arms, api.Arm{E: e, Body: r.list(depth)})
		last = r.Need("elsif", "else", "end_if").Text
	}
	if last == "else" {
		s.Else = r.list(depth)
		r.Need("end_if")
	}
	return s
}

func (r reader) cases(depth int) api.Stmt {
	s := api.Stmt{Verb: api.Case, E: []api.Expr{r.expr(depth)}}
	r.Need("of")
	for len(s.Arms) == 0 || r.IsClass(tokens.Number) || r.Is("-") {
		labels := r.labels()
		s.Arms = append(s.Arms, api.Arm{Labels: labels, Body: r.list(depth)})
	}
	if r.Need("else", "end_case").Text == "else" {
		s.Else = r.list(depth)
		r.Need("end_case")
	}
	return s
}

func (r reader) labels() [][2]int {
	var labels [][2]int
	for more := true; more; more = r.Need(",", ":").Text == "," {
		from := r.constant()
		to := from
		if r.Took("..") {
			to = r.constantOf(func(n int) bool { return n >= from })
		}
		labels = append(labels, [2]int{from, to})
	}
	return labels
}

func (r reader) counted(depth int) api.Stmt {
	s := api.Stmt{Verb: api.For, Name: r.NeedName(), By: 1}
	r.Need(":=")
	s.From = r.constant()
	r.Need("to")
	s.To = r.constantOf(func(n int) bool { return roundsFit(s.From, n) })
	if r.Took("by") {
		s.By = r.constantOf(timesFit)
	}
	r.Need("do")
	s.Body = r.list(depth)
	r.Need("end_for")
	return s
}

func (r reader) while(depth int) api.Stmt {
	s := api.Stmt{Verb: api.While, E: []api.Expr{r.expr(depth)}}
	s.Times = r.times()
	r.Need("do")
	s.Body = r.list(depth)
	r.Need("end_while")
	return s
}

func (r reader) repeat(depth int) api.Stmt {
	s := api.Stmt{Verb: api.Repeat, Body: r.list(depth)}
	r.Need("until")
	s.E = []api.Expr{r.expr(depth)}
	s.Times = r.times()
	r.Need("end_repeat")
	return s
}

// times: how often a loop goes round at most.
func (r reader) times() int {
	r.Need("max")
	return r.numberOf(1, timesFit)
}

func timesFit(n int) bool {
	return n >= 1 && n <= api.MaxTimes
}

// roundsFit: does a loop that counts by one go round often enough, at most? Its bounds are numbers of a text.
func roundsFit(from, to int) bool {
	return to-from+1 <= api.MaxTimes
}
