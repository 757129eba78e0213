package wires_test

import (
	"math/big"
	"regexp"
	"slices"
	"strings"

	"plantwright/api"
	"plantwright/cell"
	"plantwright/source"
)

// A model of the chapter: a text is read as if there were no limits, all tokens at which one is passed are put down, and the first fault is looked for behind that. What a node reads is told by its tokens, not by its tree; which node waits for which stands in a square of yes and no.

type (
	drawing struct {
		at    int
		name  string
		vars  []api.Var
		nodes []drawn
	}
	drawn struct {
		stmt   api.Stmt
		prev   bool
		writes []string
		reads  []string
	}
)

type piece struct {
	class rune // n: name, w: reserved word, s: sign, v: number or time, e: end
	text  string
	at    int
	end   int
	fault api.Errno
}

var (
	between  = regexp.MustCompile(`^(?s:[ \t\r\n]|\(\*.*?\*\)|//[^\r\n]*)*`)
	timed    = regexp.MustCompile(`^(?i:t|time)#[A-Za-z0-9_#]*`)
	worded   = regexp.MustCompile(`^[A-Za-z_][A-Za-z0-9_]*`)
	numbered = regexp.MustCompile(`^[0-9][A-Za-z0-9_#]*`)
	signed   = regexp.MustCompile(`^(:=|=>|\.\.|<=|>=|<>|[-+*/&=<>()\[\],;:.])`)
	decimal  = regexp.MustCompile(`^[0-9]+(_[0-9]+)*$`)
	based    = regexp.MustCompile(`^(16#[0-9a-f]+(_[0-9a-f]+)*|2#[01]+(_[01]+)*)$`)
	reserved = regexp.MustCompile(`^(program|end_program|function|end_function|function_block|end_function_block|var|var_input|var_output|var_external|retain|end_var|array|of|bool|int|dint|word|time|if|then|elsif|else|end_if|case|end_case|for|to|by|do|end_for|while|max|end_while|repeat|until|end_repeat|exit|continue|return|or|xor|and|mod|not|true|false|ladder|end_ladder|rung|diagram|end_diagram|prev)$`)
)

// cut: the token at a place of a text, or behind it.
func cut(s string, at int) piece {
	at += len(between.FindString(s[at:]))
	rest := s[at:]
	p := piece{class: 'e', at: at}
	switch {
	case rest == "":
	case strings.HasPrefix(rest, "(*"):
		p.fault = api.ErrText
	case timed.MatchString(rest):
		p.class, p.text = 'v', timed.FindString(rest)
		_, p.fault = cell.Read(api.Time, p.text)
	case worded.MatchString(rest):
		p.class, p.text = 'n', strings.ToLower(worded.FindString(rest))
		if reserved.MatchString(p.text) {
			p.class = 'w'
		}
		if len(p.text) > api.MaxName {
			p.fault = api.ErrLong
		}
	case numbered.MatchString(rest):
		p.class, p.text = 'v', strings.ToLower(numbered.FindString(rest))
		p.fault = numberFault(p.text)
	case signed.MatchString(rest):
		p.class, p.text = 's', signed.FindString(rest)
	default:
		p.fault = api.ErrText
	}
	p.end = at + len(p.text)
	return p
}

func numberFault(s string) api.Errno {
	base, digits := 10, s
	if before, after, ok := strings.Cut(s, "#"); ok {
		base, digits = map[string]int{"2": 2, "16": 16}[before], after
	}
	n, ok := new(big.Int).SetString(strings.ReplaceAll(digits, "_", ""), max(base, 2))
	switch {
	case len(s) > api.MaxLiteral:
		return api.ErrLong
	case !decimal.MatchString(s) && !based.MatchString(s) || !ok:
		return api.ErrText
	case n.Cmp(big.NewInt(api.MaxNumber)) > 0:
		return api.ErrRange
	}
	return api.OK
}

// model reads a text; passed: the tokens at which a limit is passed.
type model struct {
	s      string
	now    piece
	passed []api.Fault
}

func (m *model) fail(code api.Errno) {
	panic(api.Fault{Code: code, At: m.now.at})
}

// stands: is one of these here? A name counts as "name", the end as "end".
func (m *model) stands(l ...string) bool {
	if m.now.fault != api.OK {
		m.fail(m.now.fault)
	}
	what := m.now.text
	switch m.now.class {
	case 'n':
		what = "name"
	case 'e':
		what = "end"
	case 'v':
		what = "value"
	}
	return slices.Contains(l, what)
}

func (m *model) must(l ...string) piece {
	if !m.stands(l...) {
		m.fail(api.ErrText)
	}
	p := m.now
	m.now = cut(m.s, p.end)
	return p
}

func (m *model) limit(passed bool, at int) {
	if passed {
		m.passed = append(m.passed, api.Fault{Code: api.ErrSize, At: at})
	}
}

// other: what chapter 2 reads.
func other[T any](m *model, read func(string, int) (T, int, api.Fault)) T {
	x, end, f := read(m.s, m.now.at)
	if f.Code != api.OK {
		panic(f)
	}
	m.now = cut(m.s, end)
	return x
}

func (m *model) text() drawing {
	d := drawing{at: m.must("diagram").at}
	d.name = m.must("name").text
	d.vars = other(m, source.Heads)
	for m.stands("name", "prev") {
		m.limit(len(d.nodes) >= api.MaxNodes, m.now.at)
		d.nodes = append(d.nodes, m.node())
	}
	m.must("end_diagram")
	m.must("end")
	return d
}

func (m *model) node() drawn {
	first := m.must("name", "prev")
	name := first
	if first.text == "prev" {
		name = m.must("name")
	}
	n := drawn{stmt: api.Stmt{Verb: api.Set, Name: name.text, At: first.at}, prev: first.text == "prev", writes: []string{name.text}}
	if n.prev {
		m.must(":=")
		from := m.must("name")
		n.stmt.E = []api.Expr{{Form: api.Ref, Name: from.text, At: from.at}}
	} else if m.must(":=", "(").text == ":=" {
		n.stmt.E = []api.Expr{m.expr(&n)}
	} else {
		n.stmt.Verb = api.Invoke
		m.args(&n)
	}
	m.must(";")
	return n
}

func (m *model) args(n *drawn) {
	for !m.stands(")") || len(n.stmt.Args) > 0 {
		name := m.must("name")
		m.limit(len(n.stmt.Args) >= 2*api.MaxArgs, name.at)
		a := api.Arg{Name: name.text, At: name.at}
		if m.must(":=", "=>").text == "=>" {
			a.Out, a.To = true, m.must("name").text
			n.writes = append(n.writes, a.To)
		} else {
			a.E = m.expr(n)
		}
		n.stmt.Args = append(n.stmt.Args, a)
		if !m.stands(",") {
			break
		}
		m.must(",")
	}
	m.must(")")
}

// expr: an expression of a node; of its tokens those are read that are names, but for those with a point ahead or a bracket behind.
func (m *model) expr(n *drawn) api.Expr {
	from := m.now
	e := other(m, source.Expression)
	before := ""
	for p := from; p.at < m.now.at; {
		next := cut(m.s, p.end)
		if p.class == 'n' && before != "." && next.text != "(" {
			n.reads = append(n.reads, p.text)
		}
		before, p = p.text, next
	}
	return e
}

// modelled: what the model makes of a text.
func modelled(s string) (u api.Unit, f api.Fault) {
	if len(s) > api.MaxText {
		return u, api.Fault{Code: api.ErrSize}
	}
	m := &model{s: s, now: cut(s, 0)}
	var d drawing
	func() {
		defer func() {
			if given := recover(); given != nil {
				m.passed = append(m.passed, given.(api.Fault))
			}
		}()
		d = m.text()
	}()
	if len(m.passed) > 0 {
		return u, slices.MinFunc(m.passed, func(a, b api.Fault) int { return a.At - b.At })
	}
	if i := d.twice(); i >= 0 {
		return u, api.Fault{Code: api.ErrTwice, At: d.nodes[i].stmt.At}
	}
	order, stuck := d.order()
	if stuck >= 0 {
		return u, api.Fault{Code: api.ErrLoop, At: d.nodes[stuck].stmt.At}
	}
	u = api.Unit{Kind: api.Program, Name: d.name, Vars: d.vars, At: d.at}
	for _, i := range order {
		u.Body = append(u.Body, d.nodes[i].stmt)
	}
	return u, f
}

// twice: the first node that writes what was written; -1: none.
func (d drawing) twice() int {
	var all []string
	for i, n := range d.nodes {
		all = append(all, n.writes...)
		sorted := slices.Sorted(slices.Values(all))
		if len(slices.Compact(sorted)) < len(all) {
			return i
		}
	}
	return -1
}

// order: that of the nodes; or the first one that cannot be placed (-1: none).
func (d drawing) order() ([]int, int) {
	n := len(d.nodes)
	waits := make([][]bool, n)
	for i, x := range d.nodes {
		waits[i] = make([]bool, n)
		for j, y := range d.nodes {
			for _, name := range y.writes {
				waits[i][j] = waits[i][j] || !x.prev && !y.prev && slices.Contains(x.reads, name)
			}
		}
	}
	var order []int
	for len(order) < n {
		next, stuck := -1, -1
		for i, x := range d.nodes {
			if x.prev || slices.Contains(order, i) {
				continue
			}
			if stuck < 0 {
				stuck = i
			}
			free := true
			for j := range n {
				free = free && (!waits[i][j] || slices.Contains(order, j))
			}
			if free {
				next = i
				break
			}
		}
		if next < 0 {
			if stuck >= 0 {
				return nil, stuck
			}
			break
		}
		order = append(order, next)
	}
	for i, x := range d.nodes {
		if x.prev {
			order = append(order, i)
		}
	}
	return order, -1
}
