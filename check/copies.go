package check

import "plantwright/api"

// fresh: the same list in memory of its own: cut to no room at all, it cannot be appended to where it lies. Of a list without elements nothing is kept.
func fresh[T any](l []T) []T {
	if len(l) == 0 {
		return nil
	}
	return append(l[:0:0], l...)
}

// copyUnit copies every list, those too that have to be empty: they may have room.
func copyUnit(u api.Unit) api.Unit {
	u.Vars = fresh(u.Vars)
	for i := range u.Vars {
		u.Vars[i].Init = copyExpr(u.Vars[i].Init)
	}
	u.Body = copyStmts(u.Body)
	return u
}

func copyStmts(l []api.Stmt) []api.Stmt {
	l = fresh(l)
	for i := range l {
		s := &l[i]
		s.E = copyExprs(s.E)
		s.Args = copyArgs(s.Args)
		s.Arms = copyArms(s.Arms)
		s.Else = copyStmts(s.Else)
		s.Body = copyStmts(s.Body)
	}
	return l
}

func copyArgs(l []api.Arg) []api.Arg {
	l = fresh(l)
	for i := range l {
		l[i].E = copyExpr(l[i].E)
	}
	return l
}

func copyArms(l []api.Arm) []api.Arm {
	l = fresh(l)
	for i := range l {
		a := &l[i]
		a.E = copyExpr(a.E)
		a.Labels = fresh(a.Labels)
		a.Body = copyStmts(a.Body)
	}
	return l
}

func copyExprs(l []api.Expr) []api.Expr {
	l = fresh(l)
	for i := range l {
		l[i] = copyExpr(l[i])
	}
	return l
}

func copyExpr(e api.Expr) api.Expr {
	e.Kids = copyExprs(e.Kids)
	return e
}
