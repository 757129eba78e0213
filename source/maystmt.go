package source

import "plantwright/api"

// mayList: could a list of that depth come from a text?
func mayList(list []api.Stmt, depth int) bool {
	for _, s := range list {
		if depth > api.MaxDeep || !mayStmt(s, depth+1) {
			return false
		}
	}
	return true
}

// mayStmt: depth is that of what stands in the statement.
func mayStmt(s api.Stmt, depth int) bool {
	// rest is what is left when all that the verb uses is taken out.
	right, rest := false, s
	switch s.Verb {
	case api.Set:
		right = isName(s.Name) && maySet(s, depth)
		rest.Name, rest.Item, rest.E = "", false, nil
	case api.Invoke:
		right = isName(s.Name) && mayArgs(s.Args, depth)
		rest.Name, rest.Args = "", nil
	case api.If:
		right = mayArms(s, depth) && mayList(s.Else, depth)
		rest.Arms, rest.Else = nil, nil
	case api.Case:
		right = mayOne(s.E, depth) && mayArms(s, depth) && mayList(s.Else, depth)
		rest.E, rest.Arms, rest.Else = nil, nil, nil
	case api.For:
		right = isName(s.Name) && mayCount(s) && mayList(s.Body, depth)
		rest.Name, rest.From, rest.To, rest.By, rest.Body = "", 0, 0, 0, nil
	case api.While, api.Repeat:
		right = mayOne(s.E, depth) && timesFit(s.Times) && mayList(s.Body, depth)
		rest.E, rest.Times, rest.Body = nil, 0, nil
	case api.Exit, api.Next, api.Return:
		right = true
	}
	return right && isEmpty(rest)
}

// isEmpty: is there nothing in a statement but its verb?
func isEmpty(s api.Stmt) bool {
	lists := len(s.E) + len(s.Args) + len(s.Arms) + len(s.Else) + len(s.Body)
	return s.Name == "" && !s.Item && lists == 0 && s.From == 0 && s.To == 0 && s.By == 0 && s.Times == 0
}

func mayOne(list []api.Expr, depth int) bool {
	return len(list) == 1 && mayExpr(list[0], depth)
}

func maySet(s api.Stmt, depth int) bool {
	if !s.Item {
		return mayOne(s.E, depth)
	}
	return len(s.E) == 2 && mayExpr(s.E[0], depth) && mayExpr(s.E[1], depth)
}

func mayArgs(args []api.Arg, depth int) bool {
	return len(args) <= 2*api.MaxArgs && all(args, func(a api.Arg) bool {
		if a.Out {
			return isName(a.Name) && isName(a.To) && isBare(a.E)
		}
		return isName(a.Name) && a.To == "" && mayExpr(a.E, depth)
	})
}

func mayArms(s api.Stmt, depth int) bool {
	return len(s.Arms) > 0 && all(s.Arms, func(a api.Arm) bool {
		if s.Verb == api.If {
			return len(a.Labels) == 0 && mayExpr(a.E, depth) && mayList(a.Body, depth)
		}
		return isBare(a.E) && len(a.Labels) > 0 && all(a.Labels, mayLabel) && mayList(a.Body, depth)
	})
}

func mayLabel(l [2]int) bool {
	return isNumber(l[0]) && isNumber(l[1]) && l[0] <= l[1]
}

func mayCount(s api.Stmt) bool {
	return isNumber(s.From) && isNumber(s.To) && roundsFit(s.From, s.To) && timesFit(s.By)
}
