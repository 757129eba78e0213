package source

import (
	"strconv"
	"strings"

	"plantwright/api"
	"plantwright/cell"
)

// writer puts down a unit that may be, line by line.
type writer struct {
	text strings.Builder
}

func (w *writer) put(parts ...string) {
	for _, p := range parts {
		w.text.WriteString(p)
	}
}

// line puts down a whole line behind so many blanks.
func (w *writer) line(blanks int, parts ...string) {
	w.begin(blanks)
	w.put(parts...)
	w.end("")
}

func (w *writer) begin(blanks int) {
	w.put(strings.Repeat(" ", blanks))
}

func (w *writer) end(last string) {
	w.put(last, "\n")
}

func (w *writer) unit(u api.Unit) {
	word := strings.ToUpper(unitWords[u.Kind])
	w.put(word, " ", u.Name)
	if u.Kind == api.Function {
		w.put(" : ", kindName(u.Result))
	}
	w.end("")
	w.heads(u.Vars)
	w.list(u.Body, 2)
	w.line(0, "END_", word)
}

func kindName(k api.Kind) string {
	return strings.ToUpper(kindWords[k])
}

func (w *writer) heads(vars []api.Var) {
	for i, v := range vars {
		if i == 0 || vars[i-1].Role != v.Role {
			w.line(0, strings.ToUpper(roleWords[v.Role]))
		}
		w.variable(v)
		if i == len(vars)-1 || vars[i+1].Role != v.Role {
			w.line(0, "END_VAR")
		}
	}
}

func (w *writer) variable(v api.Var) {
	w.begin(2)
	w.put(v.Name, " : ")
	switch {
	case v.Kind == api.None:
		w.put(v.Of)
	case v.Len > 0:
		w.put("ARRAY[", strconv.Itoa(v.Low), "..", strconv.Itoa(v.Low+v.Len-1), "] OF ", kindName(v.Kind))
	default:
		w.put(kindName(v.Kind))
	}
	if v.Init.Form == api.Lit {
		w.put(" := ", literalText(v.Init))
	}
	w.end(";")
}

func literalText(e api.Expr) string {
	if e.Kind == api.None {
		return strconv.Itoa(e.N)
	}
	return cell.Show(e.Kind, e.N)
}

func (w *writer) expr(e api.Expr) {
	switch e.Form {
	case api.Lit:
		w.put(literalText(e))
	case api.Ref:
		w.put(e.Name)
	case api.Item:
		w.put(e.Name, "[")
		w.expr(e.Kids[0])
		w.put("]")
	case api.Part:
		w.put(e.Name, ".", e.Part)
	case api.Un:
		if e.Op == api.Not {
			w.put("NOT ")
		} else {
			w.put("-")
		}
		w.operand(e, 0)
	case api.Bin:
		w.operand(e, 0)
		w.put(" ", strings.ToUpper(opWords[e.Op]), " ")
		w.operand(e, 1)
	case api.Call:
		w.call(e)
	}
}

func (w *writer) operand(e api.Expr, i int) {
	if !inBrackets(e, i) {
		w.expr(e.Kids[i])
		return
	}
	w.put("(")
	w.expr(e.Kids[i])
	w.put(")")
}

func (w *writer) call(e api.Expr) {
	w.put(e.Name, "(")
	for i, kid := range e.Kids {
		if i > 0 {
			w.put(", ")
		}
		w.expr(kid)
	}
	w.put(")")
}
