package wires

import "plantwright/api"

// node: what is done there; prev: not till all nodes without PREV are done.
type node struct {
	stmt   api.Stmt
	prev   bool
	writes names
	reads  names
}

// names: how often each of them stands somewhere.
type names map[string]int

func written(s api.Stmt) names {
	found := names{s.Name: 1}
	for _, a := range s.Args {
		if a.Out {
			found[a.To]++
		}
	}
	return found
}

func read(s api.Stmt) names {
	found := names{}
	for _, e := range s.E {
		found.collect(e)
	}
	for _, a := range s.Args {
		found.collect(a.E)
	}
	return found
}

// collect: the names that an expression reads; a function's name is none of them, though its form has one.
func (l names) collect(e api.Expr) {
	switch e.Form {
	case api.Ref, api.Item, api.Part:
		l[e.Name]++
	}
	for _, kid := range e.Kids {
		l.collect(kid)
	}
}
