package source

import "plantwright/api"

// list: all statements that stand here; what has to stand behind them, its caller looks for.
func (r *reader) list(depth int) []api.Stmt {
	var list []api.Stmt
	for r.beginsStmt() {
		if depth > api.MaxDeep {
			r.giveUp(api.ErrDeep, r.now.at)
		}
		list = append(list, r.stmt(depth))
	}
	return list
}

func (r *reader) beginsStmt() bool {
	return r.isClass(name) || r.is("if", "case", "for", "while", "repeat", "exit", "continue", "return")
}

// stmt: a statement of a list of that depth.
func (r *reader) stmt(depth int) api.Stmt {
	var s api.Stmt
	at := r.now.at
	switch {
	case r.isClass(name):
		s = r.named(depth + 1)
	case r.took("if"):
		s = r.choice(depth + 1)
	case r.took("case"):
		s = r.cases(depth + 1)
	case r.took("for"):
		s = r.counted(depth + 1)
	case r.took("while"):
		s = r.while(depth + 1)
	case r.took("repeat"):
		s = r.repeat(depth + 1)
	case r.took("exit"):
		s.Verb = api.Exit
	case r.took("continue"):
		s.Verb = api.Next
	case r.took("return"):
		s.Verb = api.Return
	}
	s.At = at
	r.need(";")
	return s
}

// named: what begins with a name. Here and below depth is that of what stands in the statement.
func (r *reader) named(depth int) api.Stmt {
	s := api.Stmt{Verb: api.Set, Name: r.name()}
	switch r.need(":=", "[", "(").text {
	case ":=":
		s.E = []api.Expr{r.expr(depth)}
	case "[":
		s.Item = true
		index := r.expr(depth)
		r.need("]")
		r.need(":=")
		s.E = []api.Expr{r.expr(depth), index}
	case "(":
		s.Verb = api.Invoke
		s.Args = r.args(depth)
	}
	return s
}

// args: those of an instance, behind the bracket.
func (r *reader) args(depth int) []api.Arg {
	var args []api.Arg
	if r.took(")") {
		return args
	}
	for more := true; more; more = r.need(",", ")").text == "," {
		t := r.needClass(name)
		if len(args) == 2*api.MaxArgs {
			r.giveUp(api.ErrSize, t.at)
		}
		args = append(args, r.arg(t, depth))
	}
	return args
}

// arg: an argument, behind its name.
func (r *reader) arg(first token, depth int) api.Arg {
	a := api.Arg{Name: first.text, At: first.at}
	if r.need(":=", "=>").text == "=>" {
		a.Out = true
		a.To = r.name()
		return a
	}
	a.E = r.expr(depth)
	return a
}

func (r *reader) choice(depth int) api.Stmt {
	s := api.Stmt{Verb: api.If}
	last := "elsif"
	for last == "elsif" {
		e := r.expr(depth)
		r.need("then")
		s.Arms = append(s.Arms, api.Arm{E: e, Body: r.list(depth)})
		last = r.need("elsif", "else", "end_if").text
	}
	if last == "else" {
		s.Else = r.list(depth)
		r.need("end_if")
	}
	return s
}

func (r *reader) cases(depth int) api.Stmt {
	s := api.Stmt{Verb: api.Case, E: []api.Expr{r.expr(depth)}}
	r.need("of")
	for len(s.Arms) == 0 || r.isClass(number) || r.is("-") {
		labels := r.labels()
		s.Arms = append(s.Arms, api.Arm{Labels: labels, Body: r.list(depth)})
	}
	if r.need("else", "end_case").text == "else" {
		s.Else = r.list(depth)
		r.need("end_case")
	}
	return s
}

func (r *reader) labels() [][2]int {
	var labels [][2]int
	for more := true; more; more = r.need(",", ":").text == "," {
		from := r.constant()
		to := from
		if r.took("..") {
			to = r.constantOf(func(n int) bool { return n >= from })
		}
		labels = append(labels, [2]int{from, to})
	}
	return labels
}

func (r *reader) counted(depth int) api.Stmt {
	s := api.Stmt{Verb: api.For, Name: r.name(), By: 1}
	r.need(":=")
	s.From = r.constant()
	r.need("to")
	s.To = r.constantOf(func(n int) bool { return roundsFit(s.From, n) })
	if r.took("by") {
		s.By = r.constantOf(timesFit)
	}
	r.need("do")
	s.Body = r.list(depth)
	r.need("end_for")
	return s
}

func (r *reader) while(depth int) api.Stmt {
	s := api.Stmt{Verb: api.While, E: []api.Expr{r.expr(depth)}}
	s.Times = r.times()
	r.need("do")
	s.Body = r.list(depth)
	r.need("end_while")
	return s
}

func (r *reader) repeat(depth int) api.Stmt {
	s := api.Stmt{Verb: api.Repeat, Body: r.list(depth)}
	r.need("until")
	s.E = []api.Expr{r.expr(depth)}
	s.Times = r.times()
	r.need("end_repeat")
	return s
}

// times: how often a loop goes round at most.
func (r *reader) times() int {
	r.need("max")
	return r.numberOf(1, timesFit)
}

func timesFit(n int) bool {
	return n >= 1 && n <= api.MaxTimes
}

// roundsFit: does a loop that counts by one go round often enough, at most? Its bounds are numbers of a text.
func roundsFit(from, to int) bool {
	return to-from+1 <= api.MaxTimes
}
