package ladder_test

import (
	"fmt"
	"math/big"
	"regexp"
	"slices"
	"strings"

	"plantwright/api"
	"plantwright/cell"
	"plantwright/source"
)

// A model of the chapter: a text is read as if there were no limits, all tokens at which one is passed are put down, and the first fault is looked for behind that; what was read becomes a unit when all of it is there.

type (
	drawing struct {
		at    int
		name  string
		vars  []api.Var
		rungs []rung
	}
	rung struct {
		at    int
		way   way
		coils []coil
	}
	way  []step
	step struct {
		at         int
		sign       string
		name, part string
		ways       []way // brackets, if there are some
	}
	coil struct {
		at         int
		sign, name string
		args       []api.Arg // of a call; the first one is the input
	}
)

type piece struct {
	class rune // n: name, w: reserved word, s: sign, v: number or time, e: end
	text  string
	at    int
	end   int
	fault api.Errno
}

var (
	between  = regexp.MustCompile(`^(?s:[ \t\r\n]|\(\*.*?\*\)|//[^\r\n]*)*`)
	timed    = regexp.MustCompile(`^(?i:t|time)#[A-Za-z0-9_#]*`)
	worded   = regexp.MustCompile(`^[A-Za-z_][A-Za-z0-9_]*`)
	numbered = regexp.MustCompile(`^[0-9][A-Za-z0-9_#]*`)
	signed   = regexp.MustCompile(`^(:=|=>|\.\.|<=|>=|<>|[-+*/&=<>()\[\],;:.])`)
	decimal  = regexp.MustCompile(`^[0-9]+(_[0-9]+)*$`)
	based    = regexp.MustCompile(`^(16#[0-9a-f]+(_[0-9a-f]+)*|2#[01]+(_[01]+)*)$`)
	reserved = regexp.MustCompile(`^(program|end_program|function|end_function|function_block|end_function_block|var|var_input|var_output|var_external|retain|end_var|array|of|bool|int|dint|word|time|if|then|elsif|else|end_if|case|end_case|for|to|by|do|end_for|while|max|end_while|repeat|until|end_repeat|exit|continue|return|or|xor|and|mod|not|true|false|ladder|end_ladder|rung|diagram|end_diagram|prev)$`)
)

// cut: the token at a place of a text, or behind it.
func cut(s string, at int) piece {
	at += len(between.FindString(s[at:]))
	rest := s[at:]
	p := piece{class: 'e', at: at}
	switch {
	case rest == "":
	case strings.HasPrefix(rest, "(*"):
		p.fault = api.ErrText
	case timed.MatchString(rest):
		p.class, p.text = 'v', timed.FindString(rest)
		_, p.fault = cell.Read(api.Time, p.text)
	case worded.MatchString(rest):
		p.class, p.text = 'n', strings.ToLower(worded.FindString(rest))
		if reserved.MatchString(p.text) {
			p.class = 'w'
		}
		if len(p.text) > api.MaxName {
			p.fault = api.ErrLong
		}
	case numbered.MatchString(rest):
		p.class, p.text = 'v', strings.ToLower(numbered.FindString(rest))
		p.fault = numberFault(p.text)
	case signed.MatchString(rest):
		p.class, p.text = 's', signed.FindString(rest)
	default:
		p.fault = api.ErrText
	}
	p.end = at + len(p.text)
	return p
}

func numberFault(s string) api.Errno {
	base, digits := 10, s
	if before, after, ok := strings.Cut(s, "#"); ok {
		base, digits = map[string]int{"2": 2, "16": 16}[before], after
	}
	n, ok := new(big.Int).SetString(strings.ReplaceAll(digits, "_", ""), max(base, 2))
	switch {
	case len(s) > api.MaxLiteral:
		return api.ErrLong
	case !decimal.MatchString(s) && !based.MatchString(s) || !ok:
		return api.ErrText
	case n.Cmp(big.NewInt(api.MaxNumber)) > 0:
		return api.ErrRange
	}
	return api.OK
}

// model reads a text; passed: the tokens at which a limit is passed.
type model struct {
	s      string
	now    piece
	passed []api.Fault
	vars   int
	rungs  int
	of     int // contacts of the rung
}

func (m *model) fail(code api.Errno) {
	panic(api.Fault{Code: code, At: m.now.at})
}

// stands: is one of these here? A name counts as "name", the end as "end".
func (m *model) stands(l ...string) bool {
	if m.now.fault != api.OK {
		m.fail(m.now.fault)
	}
	what := m.now.text
	switch m.now.class {
	case 'n':
		what = "name"
	case 'e':
		what = "end"
	case 'v':
		what = "value"
	}
	return slices.Contains(l, what)
}

func (m *model) must(l ...string) piece {
	if !m.stands(l...) {
		m.fail(api.ErrText)
	}
	p := m.now
	m.now = cut(m.s, p.end)
	return p
}

func (m *model) limit(passed bool, code api.Errno, at int) {
	if passed {
		m.passed = append(m.passed, api.Fault{Code: code, At: at})
	}
}

func (m *model) asks(at int) {
	m.vars++
	m.limit(m.vars > api.MaxVars, api.ErrSize, at)
}

// other: what chapter 2 reads.
func other[T any](m *model, read func(string, int) (T, int, api.Fault)) T {
	x, end, f := read(m.s, m.now.at)
	if f.Code != api.OK {
		panic(f)
	}
	m.now = cut(m.s, end)
	return x
}

func (m *model) text() drawing {
	d := drawing{at: m.must("ladder").at}
	d.name = m.must("name").text
	d.vars = other(m, source.Heads)
	m.vars = len(d.vars)
	for m.stands("rung") {
		d.rungs = append(d.rungs, m.rung())
	}
	m.must("end_ladder")
	m.must("end")
	return d
}

func (m *model) rung() rung {
	r := rung{at: m.must("rung").at}
	if m.rungs == 0 {
		m.asks(r.at)
	}
	m.rungs++
	m.limit(m.rungs > api.MaxRungs, api.ErrSize, r.at)
	m.of = 0
	r.way = m.way(0)
	m.must("=>")
	for {
		r.coils = append(r.coils, m.coil(len(r.coils)))
		if m.must(",", ";").text == ";" {
			return r
		}
	}
}

func (m *model) way(nest int) way {
	w := way{m.step(nest)}
	for m.stands("[", "(") {
		w = append(w, m.step(nest))
	}
	return w
}

func (m *model) step(nest int) step {
	p := m.must("[", "(")
	s := step{at: p.at}
	if p.text == "(" {
		m.limit(nest >= api.MaxNest && m.stands("[", "("), api.ErrDeep, m.now.at)
		s.ways = append(s.ways, m.way(nest+1))
		for m.must(",", ")").text == "," {
			s.ways = append(s.ways, m.way(nest+1))
		}
		return s
	}
	m.of++
	m.limit(m.of > api.MaxContacts, api.ErrSize, p.at)
	if m.stands("/", ">", "<") {
		s.sign = m.must("/", ">", "<").text
	}
	if s.sign == ">" || s.sign == "<" {
		m.asks(p.at)
	}
	s.name = m.must("name").text
	if m.stands(".") {
		m.must(".")
		s.part = m.must("name").text
	}
	m.must("]")
	return s
}

func (m *model) coil(others int) coil {
	p := m.must("name", "/", "+", "-", ">")
	m.limit(others >= api.MaxCoils, api.ErrSize, p.at)
	c := coil{at: p.at, name: p.text}
	if p.class == 's' {
		if p.text == ">" {
			m.asks(p.at)
		}
		c.sign, c.name = p.text, m.must("name").text
		return c
	}
	if !m.stands("(") {
		return c
	}
	m.must("(")
	in := m.must("name")
	c.args = []api.Arg{{Name: in.text, At: in.at}}
	for m.must(",", ")").text == "," {
		name := m.must("name")
		m.limit(len(c.args) >= 2*api.MaxArgs, api.ErrSize, name.at)
		a := api.Arg{Name: name.text, At: name.at}
		if m.must(":=", "=>").text == "=>" {
			a.Out, a.To = true, m.must("name").text
		} else {
			a.E = other(m, source.Expression)
		}
		c.args = append(c.args, a)
	}
	return c
}

// modelled: what the model makes of a text.
func modelled(s string) (u api.Unit, f api.Fault) {
	if len(s) > api.MaxText {
		return u, api.Fault{Code: api.ErrSize}
	}
	m := &model{s: s, now: cut(s, 0)}
	var d drawing
	func() {
		defer func() {
			if given := recover(); given != nil {
				m.passed = append(m.passed, given.(api.Fault))
			}
		}()
		d = m.text()
	}()
	if len(m.passed) > 0 {
		return u, slices.MinFunc(m.passed, earlier)
	}
	return d.unit(), f
}

// earlier: which of two faults is told? Of one token that of which the chapter tells first.
func earlier(a, b api.Fault) int {
	if a.At != b.At {
		return a.At - b.At
	}
	order := []api.Errno{api.ErrText, api.ErrLong, api.ErrRange, api.ErrSize, api.ErrDeep}
	return slices.Index(order, a.Code) - slices.Index(order, b.Code)
}

// unit: what a drawing becomes.
func (d drawing) unit() api.Unit {
	u := api.Unit{Kind: api.Program, Name: d.name, Vars: d.vars, At: d.at}
	if len(d.rungs) > 0 {
		u.Vars = append(u.Vars, api.Var{Name: "%0", Role: api.Own, Kind: api.Bool})
	}
	count := 0
	instance := func(of string) string {
		count++
		name := fmt.Sprint("%", count)
		u.Vars = append(u.Vars, api.Var{Name: name, Role: api.Own, Of: of})
		return name
	}
	for _, r := range d.rungs {
		contacts := map[int]string{} // by place: the instances of edges
		r.way.each(func(s step) {
			if s.sign == ">" || s.sign == "<" {
				name := instance(map[string]string{">": "r_trig", "<": "f_trig"}[s.sign])
				contacts[s.at] = name
				clk := api.Arg{Name: "clk", E: s.what(r.at), At: r.at}
				u.Body = append(u.Body, api.Stmt{Verb: api.Invoke, Name: name, Args: []api.Arg{clk}, At: r.at})
			}
		})
		u.Body = append(u.Body, api.Stmt{Verb: api.Set, Name: "%0", E: []api.Expr{r.way.expr(contacts)}, At: r.at})
		for _, c := range r.coils {
			u.Body = append(u.Body, c.stmts(instance)...)
		}
	}
	return u
}

// each goes through all contacts, from left to right.
func (w way) each(do func(step)) {
	for _, s := range w {
		if s.ways == nil {
			do(s)
		}
		for _, in := range s.ways {
			in.each(do)
		}
	}
}

func (s step) what(at int) api.Expr {
	if s.part != "" {
		return api.Expr{Form: api.Part, Name: s.name, Part: s.part, At: at}
	}
	return api.Expr{Form: api.Ref, Name: s.name, At: at}
}

func (w way) expr(contacts map[int]string) api.Expr {
	e := w[0].expr(contacts)
	for _, s := range w[1:] {
		e = api.Expr{Form: api.Bin, Op: api.And, At: s.at, Kids: []api.Expr{e, s.expr(contacts)}}
	}
	return e
}

func (s step) expr(contacts map[int]string) api.Expr {
	if s.ways != nil {
		e := s.ways[0].expr(contacts)
		for _, w := range s.ways[1:] {
			e = api.Expr{Form: api.Bin, Op: api.Or, At: w[0].at, Kids: []api.Expr{e, w.expr(contacts)}}
		}
		return e
	}
	switch s.sign {
	case "":
		return s.what(s.at)
	case "/":
		return api.Expr{Form: api.Un, Op: api.Not, At: s.at, Kids: []api.Expr{s.what(s.at)}}
	}
	return api.Expr{Form: api.Part, Name: contacts[s.at], Part: "q", At: s.at}
}

func (c coil) stmts(instance func(string) string) []api.Stmt {
	on := api.Expr{Form: api.Ref, Name: "%0", At: c.at}
	set := func(e api.Expr) api.Stmt {
		return api.Stmt{Verb: api.Set, Name: c.name, E: []api.Expr{e}, At: c.at}
	}
	when := func(n int) api.Stmt {
		body := set(api.Expr{Form: api.Lit, Kind: api.Bool, N: n, At: c.at})
		return api.Stmt{Verb: api.If, Arms: []api.Arm{{E: on, Body: []api.Stmt{body}}}, At: c.at}
	}
	switch {
	case c.sign == "/":
		return []api.Stmt{set(api.Expr{Form: api.Un, Op: api.Not, At: c.at, Kids: []api.Expr{on}})}
	case c.sign == "+":
		return []api.Stmt{when(1)}
	case c.sign == "-":
		return []api.Stmt{when(0)}
	case c.sign == ">":
		name := instance("r_trig")
		call := api.Stmt{Verb: api.Invoke, Name: name, Args: []api.Arg{{Name: "clk", E: on, At: c.at}}, At: c.at}
		return []api.Stmt{call, set(api.Expr{Form: api.Part, Name: name, Part: "q", At: c.at})}
	case c.args != nil:
		args := slices.Clone(c.args)
		args[0].E = on
		return []api.Stmt{{Verb: api.Invoke, Name: c.name, Args: args, At: c.at}}
	}
	return []api.Stmt{set(on)}
}
