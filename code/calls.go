package code

import "plantwright/api"

// called: the functions ahead that statements call anywhere, in the list's order.
func (l *library) called(body []api.Stmt) []string {
	times := map[string]int{}
	eachCall(body, func(name string) { times[name]++ })
	var names []string
	for _, p := range l.procs {
		if p.Kind == api.Function && times[p.Name] > 0 {
			names = append(names, p.Name)
		}
	}
	return names
}

// eachCall tells the name of each function that is called, of built-in ones too.
func eachCall(l []api.Stmt, tell func(name string)) {
	for i := range l {
		s := &l[i]
		callsWithin(tell, s.E...)
		for _, a := range s.Args {
			callsWithin(tell, a.E)
		}
		for _, a := range s.Arms {
			callsWithin(tell, a.E)
			eachCall(a.Body, tell)
		}
		eachCall(s.Else, tell)
		eachCall(s.Body, tell)
	}
}

func callsWithin(tell func(name string), l ...api.Expr) {
	for i := range l {
		if l[i].Form == api.Call {
			tell(l[i].Name)
		}
		callsWithin(tell, l[i].Kids...)
	}
}
