package source

import (
	"plantwright/api"
	"plantwright/cell"
	"plantwright/tokens"
)

func mayUnit(u api.Unit) bool {
	switch u.Kind {
	case api.Program, api.Block:
		if u.Result != api.None {
			return false
		}
	case api.Function:
		if !isKind(u.Result) {
			return false
		}
	default:
		return false
	}
	return isName(u.Name) && len(u.Vars) <= api.MaxVars && all(u.Vars, mayVar) && mayList(u.Body, inUnit)
}

func all[T any](list []T, may func(T) bool) bool {
	for _, x := range list {
		if !may(x) {
			return false
		}
	}
	return true
}

func isKind(k api.Kind) bool {
	return k >= api.Bool && k <= api.Time
}

// isNumber: can a text have this number, with or without a sign?
func isNumber(n int) bool {
	return n >= -api.MaxNumber && n <= api.MaxNumber
}

// isName: is this a name that a text can have, or a hidden one?
func isName(s string) bool {
	return isWord(s) && !tokens.IsReserved(s) || isHidden(s)
}

func isWord(s string) bool {
	if s == "" || len(s) > api.MaxName || tokens.IsDigit(s[0]) {
		return false
	}
	for i := range len(s) {
		great := s[i] >= 'A' && s[i] <= 'Z'
		if great || !tokens.IsLetter(s[i]) && !tokens.IsDigit(s[i]) {
			return false
		}
	}
	return true
}

func isHidden(s string) bool {
	if len(s) < 2 || len(s) > 10 || s[0] != '%' {
		return false
	}
	for i := 1; i < len(s); i++ {
		if !tokens.IsDigit(s[i]) {
			return false
		}
	}
	return s[1] != '0' || len(s) == 2
}

func mayVar(v api.Var) bool {
	if !isName(v.Name) || v.Role < api.Own || v.Role > api.Keep {
		return false
	}
	if v.Init.Form != api.Lit && !isBare(v.Init) || v.Init.Form == api.Lit && !mayExpr(v.Init, inUnit) {
		return false
	}
	if v.Kind == api.None {
		return isName(v.Of) && v.Low == 0 && v.Len == 0
	}
	return isKind(v.Kind) && v.Of == "" && mayLength(v.Low, v.Len)
}

func mayLength(low, length int) bool {
	if length == 0 {
		return low == 0
	}
	return lengthFits(length) && isNumber(low) && isNumber(low+length-1)
}

// isBare: is there nothing in it? Where it stands is not looked at, here and below.
func isBare(e api.Expr) bool {
	return e.Form == 0 && e.Op == 0 && e.Kind == api.None && e.N == 0 && e.Name == "" && e.Part == "" && len(e.Kids) == 0
}

// mayExpr: could an expression of that depth come from a text?
func mayExpr(e api.Expr, depth int) bool {
	// rest is what is left when all that the form uses is taken out.
	right, rest := false, e
	rest.Form = 0
	switch e.Form {
	case api.Lit:
		right = mayLit(e)
		rest.Kind, rest.N = api.None, 0
	case api.Ref:
		right = isName(e.Name)
		rest.Name = ""
	case api.Item:
		right = isName(e.Name) && len(e.Kids) == 1
		rest.Name, rest.Kids = "", nil
	case api.Part:
		right = isName(e.Name) && isName(e.Part)
		rest.Name, rest.Part = "", ""
	case api.Un:
		right = (e.Op == api.Not || e.Op == api.Neg) && len(e.Kids) == 1
		rest.Op, rest.Kids = 0, nil
	case api.Bin:
		right = levelOf(e.Op) > 0 && len(e.Kids) == 2
		rest.Op, rest.Kids = 0, nil
	case api.Call:
		right = (isName(e.Name) || e.Name == "max") && len(e.Kids) >= 1 && len(e.Kids) <= api.MaxArgs
		rest.Name, rest.Kids = "", nil
	}
	return depth <= api.MaxDeep && right && isBare(rest) && mayKids(e, depth)
}

func mayLit(e api.Expr) bool {
	switch e.Kind {
	case api.None:
		return isNumber(e.N)
	case api.Bool, api.Time:
		return cell.Fits(e.Kind, e.N)
	}
	return false
}

// mayKids is asked of an expression that is right but for its kids.
func mayKids(e api.Expr, depth int) bool {
	if e.Form != api.Bin {
		depth++
	}
	for i := range e.Kids {
		inside := depth
		if inBrackets(e, i) {
			inside++
		}
		if !mayExpr(e.Kids[i], inside) {
			return false
		}
	}
	return true
}

// inBrackets: would another tree be read if this kid had no brackets?
func inBrackets(e api.Expr, i int) bool {
	kid := e.Kids[i]
	switch e.Form {
	case api.Un:
		signed := e.Op == api.Neg && kid.Form == api.Lit && kid.Kind == api.None && kid.N >= 0
		return kid.Form == api.Bin || signed
	case api.Bin:
		if kid.Form != api.Bin {
			return false
		}
		return levelOf(kid.Op) < levelOf(e.Op) || i == 1 && levelOf(kid.Op) == levelOf(e.Op)
	}
	return false
}
