package wires

import (
	"plantwright/api"
	"plantwright/drawings"
	"plantwright/tokens"
)

// reader reads what a diagram's text is made of.
type reader struct {
	drawings.Reader
}

// unit: that of a whole diagram; its wires are not looked at till all of its text was read, since what is wrong with the text is told first.
func (r reader) unit() api.Unit {
	u := api.Unit{Kind: api.Program, At: r.Need("diagram").At}
	u.Name = r.NeedName()
	u.Vars = r.Heads()
	nodes := r.nodes()
	r.Need("end_diagram")
	r.NeedClass(tokens.Ending)
	r.needOneWriter(nodes)
	u.Body = r.inOrder(nodes)
	return u
}

func (r reader) nodes() []node {
	var nodes []node
	for r.IsClass(tokens.Name) || r.Is("prev") {
		if len(nodes) == api.MaxNodes {
			r.GiveUp(api.ErrSize, r.Now.At)
		}
		nodes = append(nodes, r.node())
	}
	return nodes
}

func (r reader) node() node {
	at := r.Now.At
	prev := r.Took("prev")
	s := api.Stmt{Verb: api.Set, At: at, Name: r.NeedName()}
	switch {
	case prev:
		r.Need(":=")
		s.E = []api.Expr{r.variable()}
	case r.Need(":=", "(").Text == ":=":
		s.E = []api.Expr{r.Expression()}
	default:
		s.Verb = api.Invoke
		s.Args = r.args()
	}
	r.Need(";")
	return node{stmt: s, prev: prev, writes: written(s), reads: read(s)}
}

func (r reader) variable() api.Expr {
	t := r.NeedClass(tokens.Name)
	return api.Expr{Form: api.Ref, Name: t.Text, At: t.At}
}

// args: those of an instance, behind the bracket.
func (r reader) args() []api.Arg {
	var args []api.Arg
	if r.Took(")") {
		return args
	}
	for more := true; more; more = r.Need(",", ")").Text == "," {
		args = append(args, r.NeedArg(len(args), r.Expression))
	}
	return args
}
