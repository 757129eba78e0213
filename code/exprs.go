package code

import "plantwright/api"

// exprs leaves the values of expressions on the stack, the last one on top.
func (w *writer) exprs(l ...api.Expr) {
	for i := range l {
		w.expr(&l[i])
	}
}

func (w *writer) expr(e *api.Expr) {
	switch e.Form {
	case api.Lit:
		w.put(api.Push, e.N)
	case api.Ref:
		w.put(api.Load, w.at[e.Name])
	case api.Item:
		w.exprs(e.Kids...)
		w.element(api.LoadAt, e.Name)
	case api.Part:
		at, m := w.instance(e.Name)
		w.put(api.Load, at+m.at[e.Part])
	case api.Un, api.Bin:
		w.exprs(e.Kids...)
		w.work(e.Op, e.Kids[0].Kind)
	case api.Call:
		w.call(e)
	}
}

func (w *writer) call(e *api.Expr) {
	if m, ok := w.moulds[e.Name]; ok {
		w.function(e, m)
		return
	}
	if e.Name == "limit" {
		w.exprs(e.Kids[:2]...)
		w.work(api.Max, e.Kind)
		w.exprs(e.Kids[2])
		w.work(api.Min, e.Kind)
		return
	}
	w.exprs(e.Kids...)
	switch op := builtin(e.Name); {
	case e.Name == "sel":
		w.put(api.Pick)
	case op != 0:
		w.work(op, e.Kids[0].Kind)
	default:
		w.put(api.Turn, int(e.Kids[0].Kind), int(e.Kind))
	}
}

// builtin: the operation that a built-in function is; 0: it is none.
func builtin(name string) api.Op {
	switch name {
	case "abs":
		return api.Abs
	case "min":
		return api.Min
	case "max":
		return api.Max
	case "shl":
		return api.Shl
	case "shr":
		return api.Shr
	case "rol":
		return api.Rol
	case "ror":
		return api.Ror
	}
	return 0
}

// function: arguments are stored when all of them are known, as they may call the same function.
func (w *writer) function(e *api.Expr, m mould) {
	w.exprs(e.Kids...)
	area := w.areas[e.Name]
	for i := len(m.ins) - 1; i >= 0; i-- {
		w.put(api.Store, area+m.ins[i])
	}
	w.put(m.do, m.number, area)
	w.put(api.Load, area)
}
