package source

import (
	"strconv"

	"plantwright/api"
)

// list puts down statements, each behind so many blanks.
func (w *writer) list(list []api.Stmt, blanks int) {
	for _, s := range list {
		w.stmt(s, blanks)
	}
}

func (w *writer) stmt(s api.Stmt, blanks int) {
	switch s.Verb {
	case api.Set:
		w.set(s, blanks)
	case api.Invoke:
		w.invoke(s, blanks)
	case api.If:
		w.choice(s, blanks)
	case api.Case:
		w.cases(s, blanks)
	case api.For:
		w.counted(s, blanks)
	case api.While:
		w.around(blanks, "WHILE ", s.E[0], " MAX "+strconv.Itoa(s.Times)+" DO")
		w.list(s.Body, blanks+2)
		w.line(blanks, "END_WHILE;")
	case api.Repeat:
		w.line(blanks, "REPEAT")
		w.list(s.Body, blanks+2)
		w.around(blanks, "UNTIL ", s.E[0], " MAX "+strconv.Itoa(s.Times))
		w.line(blanks, "END_REPEAT;")
	case api.Exit:
		w.line(blanks, "EXIT;")
	case api.Next:
		w.line(blanks, "CONTINUE;")
	case api.Return:
		w.line(blanks, "RETURN;")
	}
}

// around puts down a line with an expression in it.
func (w *writer) around(blanks int, ahead string, e api.Expr, behind string) {
	w.begin(blanks)
	w.put(ahead)
	w.expr(e)
	w.end(behind)
}

func (w *writer) set(s api.Stmt, blanks int) {
	w.begin(blanks)
	w.put(s.Name)
	if s.Item {
		w.put("[")
		w.expr(s.E[1])
		w.put("]")
	}
	w.put(" := ")
	w.expr(s.E[0])
	w.end(";")
}

func (w *writer) invoke(s api.Stmt, blanks int) {
	w.begin(blanks)
	w.put(s.Name, "(")
	for i, a := range s.Args {
		if i > 0 {
			w.put(", ")
		}
		if a.Out {
			w.put(a.Name, " => ", a.To)
			continue
		}
		w.put(a.Name, " := ")
		w.expr(a.E)
	}
	w.end(");")
}

func (w *writer) choice(s api.Stmt, blanks int) {
	word := "IF "
	for _, a := range s.Arms {
		w.around(blanks, word, a.E, " THEN")
		w.list(a.Body, blanks+2)
		word = "ELSIF "
	}
	w.otherwise(s.Else, blanks)
	w.line(blanks, "END_IF;")
}

func (w *writer) otherwise(list []api.Stmt, blanks int) {
	if len(list) > 0 {
		w.line(blanks, "ELSE")
		w.list(list, blanks+2)
	}
}

func (w *writer) cases(s api.Stmt, blanks int) {
	w.around(blanks, "CASE ", s.E[0], " OF")
	for _, a := range s.Arms {
		w.labels(a.Labels, blanks+2)
		w.list(a.Body, blanks+4)
	}
	w.otherwise(s.Else, blanks)
	w.line(blanks, "END_CASE;")
}

func (w *writer) labels(labels [][2]int, blanks int) {
	w.begin(blanks)
	for i, l := range labels {
		if i > 0 {
			w.put(", ")
		}
		w.put(strconv.Itoa(l[0]))
		if l[1] > l[0] {
			w.put("..", strconv.Itoa(l[1]))
		}
	}
	w.end(":")
}

func (w *writer) counted(s api.Stmt, blanks int) {
	w.begin(blanks)
	w.put("FOR ", s.Name, " := ", strconv.Itoa(s.From), " TO ", strconv.Itoa(s.To))
	if s.By != 1 {
		w.put(" BY ", strconv.Itoa(s.By))
	}
	w.end(" DO")
	w.list(s.Body, blanks+2)
	w.line(blanks, "END_FOR;")
}
