package check_test

import (
	"slices"
	"strings"

	"plantwright/api"
	"plantwright/blocks"
	"plantwright/cell"
	"plantwright/source"
)

// model is the chapter's rules written down once more, as plainly as they stand there: each function answers with the first fault, or nil.
type model struct {
	ahead   []api.Unit
	globals []api.Global
	unit    api.Unit
	vars    []api.Var
	counts  []string
	loops   int
	others  []string
	mine    []string
}

func fault(code api.Errno, at int) *api.Fault {
	return &api.Fault{Code: code, At: at}
}

// first: the first fault of several parts, of which none is looked at behind one.
func first(parts ...func() *api.Fault) *api.Fault {
	for _, p := range parts {
		if f := p(); f != nil {
			return f
		}
	}
	return nil
}

// modelCheck changes the units that it is given.
func modelCheck(us []api.Unit, gs []api.Global) ([]api.Unit, api.Fault) {
	for i, g := range gs {
		named := source.May(api.Unit{Kind: api.Program, Name: g.Name}) && !strings.HasPrefix(g.Name, "%")
		known := slices.ContainsFunc(gs[:i], func(h api.Global) bool { return h.Name == g.Name })
		if !named || known || g.Kind < 1 || g.Kind > 5 || g.Dir < 1 || g.Dir > 4 || i >= 64 {
			return nil, api.Fault{Code: api.ErrPlan, At: i}
		}
	}
	if len(us) > 16 {
		return nil, api.Fault{Code: api.ErrSize, Unit: 16}
	}
	var written []string
	for i := range us {
		m := &model{ahead: us[:i], globals: gs, others: written}
		if f := m.whole(&us[i]); f != nil {
			f.Unit = i
			return nil, *f
		}
		written = append(written, m.mine...)
	}
	return us, api.Fault{}
}

func isBuiltin(name string) bool {
	return slices.Contains(strings.Fields("abs min max limit sel shl shr rol ror"), name) || conversion(name) != [2]api.Kind{}
}

// conversion: the kinds of K_to_L.
func conversion(name string) [2]api.Kind {
	words := []string{"", "bool", "int", "dint", "word", "time"}
	from, to, _ := strings.Cut(name, "_to_")
	k, l := slices.Index(words, from), slices.Index(words, to)
	if k > 0 && l > 0 && k != l {
		return [2]api.Kind{api.Kind(k), api.Kind(l)}
	}
	return [2]api.Kind{}
}

func (m *model) unitNamed(name string, k api.UnitKind) *api.Unit {
	for i := range m.ahead {
		if m.ahead[i].Name == name && (k == 0 || m.ahead[i].Kind == k) {
			return &m.ahead[i]
		}
	}
	return nil
}

func (m *model) whole(u *api.Unit) *api.Fault {
	if !source.May(*u) {
		return fault(api.ErrText, 0)
	}
	m.unit = *u
	if _, std := blocks.Shape(u.Name); std || isBuiltin(u.Name) || m.unitNamed(u.Name, 0) != nil {
		return fault(api.ErrTwice, u.At)
	}
	if u.Kind == api.Function {
		m.vars = append(m.vars, api.Var{Name: u.Name, Role: api.Own, Kind: u.Result})
	}
	ins, outs := 0, 0
	for i := range u.Vars {
		v := &u.Vars[i]
		if f := m.variable(v); f != nil {
			return f
		}
		m.vars = append(m.vars, *v)
		if v.Role == api.Input {
			ins++
		}
		if v.Role == api.Output {
			outs++
		}
	}
	if u.Kind == api.Function && ins > 8 || u.Kind != api.Function && ins+outs > 16 {
		return fault(api.ErrSize, u.At)
	}
	return m.list(u.Body)
}

func (m *model) variable(v *api.Var) *api.Fault {
	if v.Name == m.unit.Name || m.find(v.Name) != nil {
		return fault(api.ErrTwice, v.At)
	}
	if !has(m.unit.Kind, v.Role) {
		return fault(api.ErrKind, v.At)
	}
	inner := v.Role == api.Own || v.Role == api.Keep
	if v.Of != "" {
		if !inner || m.unit.Kind == api.Function || v.Init.Form != 0 {
			return fault(api.ErrKind, v.At)
		}
		if _, std := blocks.Shape(v.Of); !std && m.unitNamed(v.Of, api.Block) == nil {
			return fault(api.ErrName, v.At)
		}
		return nil
	}
	if v.Len > 0 && !inner {
		return fault(api.ErrKind, v.At)
	}
	if v.Role == api.Extern {
		if v.Init.Form != 0 {
			return fault(api.ErrKind, v.At)
		}
		g := m.global(v.Name)
		if g == nil {
			return fault(api.ErrName, v.At)
		}
		if g.Kind != v.Kind {
			return fault(api.ErrKind, v.At)
		}
	}
	if v.Init.Form == 0 {
		return nil
	}
	plain := v.Kind == api.Int || v.Kind == api.Dint || v.Kind == api.Word
	if v.Init.Kind != api.None && v.Init.Kind != v.Kind || v.Init.Kind == api.None && !plain {
		return fault(api.ErrKind, v.Init.At)
	}
	if plain && !cell.Fits(v.Kind, v.Init.N) {
		return fault(api.ErrRange, v.Init.At)
	}
	v.Init.Kind = v.Kind
	return nil
}

func (m *model) global(name string) *api.Global {
	for i := range m.globals {
		if m.globals[i].Name == name {
			return &m.globals[i]
		}
	}
	return nil
}

func (m *model) find(name string) *api.Var {
	for i := range m.vars {
		if m.vars[i].Name == name {
			return &m.vars[i]
		}
	}
	return nil
}

// bare, as the chapter says it.
func bare(e api.Expr) bool {
	switch {
	case e.Form == api.Lit:
		return e.Kind == api.None
	case e.Form == api.Un && e.Op == api.Neg:
		return bare(e.Kids[0])
	case e.Form == api.Bin && strings.Contains(" 1 2 3 4 5 ", " "+string(rune('0'+e.Op))+" "):
		return bare(e.Kids[0]) && bare(e.Kids[1])
	}
	return false
}

// variable's and element's faults of a name, at a place.
func (m *model) value(name string, item bool, at int) *api.Fault {
	v := m.find(name)
	if v == nil {
		return fault(api.ErrName, at)
	}
	if v.Of != "" || (v.Len > 0) != item {
		return fault(api.ErrKind, at)
	}
	return nil
}

// pinsOf an instance, its inputs and its outputs.
func (m *model) pinsOf(v *api.Var) ([]api.Pin, []api.Pin) {
	if s, ok := blocks.Shape(v.Of); ok {
		return s.Ins, s.Outs
	}
	u := m.unitNamed(v.Of, api.Block)
	return rolePins(u, api.Input), rolePins(u, api.Output)
}

func rolePins(u *api.Unit, r api.Role) []api.Pin {
	var l []api.Pin
	for _, v := range u.Vars {
		if v.Role == r {
			l = append(l, api.Pin{Name: v.Name, Kind: v.Kind})
		}
	}
	return l
}

func pinNamed(l []api.Pin, name string) api.Kind {
	for _, p := range l {
		if p.Name == name {
			return p.Kind
		}
	}
	return api.None
}

// must: an expression with a kind wanted, which it has to have.
func (m *model) must(e *api.Expr, k api.Kind) *api.Fault {
	return m.oneOf(e, k, k)
}

// oneOf: an expression with what is wanted, which has to have one of these kinds.
func (m *model) oneOf(e *api.Expr, want api.Kind, kinds ...api.Kind) *api.Fault {
	if f := m.expr(e, want); f != nil {
		return f
	}
	if !slices.Contains(kinds, e.Kind) {
		return fault(api.ErrKind, e.At)
	}
	return nil
}

func (m *model) expr(e *api.Expr, want api.Kind) *api.Fault {
	switch e.Form {
	case api.Lit:
		return m.literal(e, want)
	case api.Ref:
		if f := m.value(e.Name, false, e.At); f != nil {
			return f
		}
		e.Kind = m.find(e.Name).Kind
	case api.Item:
		if f := m.value(e.Name, true, e.At); f != nil {
			return f
		}
		e.Kind = m.find(e.Name).Kind
		return m.oneOf(&e.Kids[0], api.None, api.Int, api.Dint)
	case api.Part:
		v := m.find(e.Name)
		if v == nil {
			return fault(api.ErrName, e.At)
		}
		if v.Of == "" {
			return fault(api.ErrKind, e.At)
		}
		_, outs := m.pinsOf(v)
		if e.Kind = pinNamed(outs, e.Part); e.Kind == api.None {
			return fault(api.ErrName, e.At)
		}
	case api.Un:
		if f := m.expr(&e.Kids[0], want); f != nil {
			return f
		}
		return m.does(e, e.Kids[0].Kind, e.Op)
	case api.Bin:
		if e.Op >= api.Eq && e.Op <= api.Ge {
			want = api.None
		}
		k, f := m.alike(e.Kids, want, e.At)
		if f != nil {
			return f
		}
		return m.does(e, k, e.Op)
	case api.Call:
		return m.call(e, want)
	}
	return nil
}

func (m *model) literal(e *api.Expr, want api.Kind) *api.Fault {
	if e.Kind != api.None {
		return nil
	}
	if want == api.None {
		want = api.Dint
	}
	if want == api.Bool || want == api.Time {
		return fault(api.ErrKind, e.At)
	}
	if !cell.Fits(want, e.N) {
		return fault(api.ErrRange, e.At)
	}
	e.Kind = want
	return nil
}

// does: the kind has to have these operations; the expression's kind is the last one's result.
func (m *model) does(e *api.Expr, k api.Kind, ops ...api.Op) *api.Fault {
	for _, op := range ops {
		if cell.Result(op, k) == api.None {
			return fault(api.ErrKind, e.At)
		}
		e.Kind = cell.Result(op, k)
	}
	return nil
}

func (m *model) alike(l []api.Expr, want api.Kind, at int) (api.Kind, *api.Fault) {
	var order []*api.Expr
	for _, isBare := range []bool{false, true} {
		for i := range l {
			if bare(l[i]) == isBare {
				order = append(order, &l[i])
			}
		}
	}
	for i, e := range order {
		if i > 0 {
			want = order[0].Kind
		}
		if f := m.expr(e, want); f != nil {
			return 0, f
		}
	}
	for _, e := range order {
		if e.Kind != order[0].Kind {
			return 0, fault(api.ErrKind, at)
		}
	}
	return order[0].Kind, nil
}

func (m *model) call(e *api.Expr, want api.Kind) *api.Fault {
	n, known := map[string]int{"abs": 1, "min": 2, "max": 2, "limit": 3, "sel": 3, "shl": 2, "shr": 2, "rol": 2, "ror": 2}[e.Name]
	if conversion(e.Name) != [2]api.Kind{} {
		n, known = 1, true
	}
	own := m.unitNamed(e.Name, api.Function)
	if own != nil {
		n, known = len(rolePins(own, api.Input)), true
	}
	if !known {
		return fault(api.ErrName, e.At)
	}
	if n != len(e.Kids) {
		return fault(api.ErrCall, e.At)
	}
	if own != nil {
		e.Kind = own.Result
		for i, p := range rolePins(own, api.Input) {
			if f := m.must(&e.Kids[i], p.Kind); f != nil {
				return f
			}
		}
		return nil
	}
	return m.builtin(e, want)
}

func (m *model) builtin(e *api.Expr, want api.Kind) *api.Fault {
	switch e.Name {
	case "abs":
		if f := m.expr(&e.Kids[0], want); f != nil {
			return f
		}
		return m.does(e, e.Kids[0].Kind, api.Abs)
	case "min", "max", "limit":
		k, f := m.alike(e.Kids, want, e.At)
		if f != nil {
			return f
		}
		ops := map[string][]api.Op{"min": {api.Min}, "max": {api.Max}, "limit": {api.Max, api.Min}}
		return m.does(e, k, ops[e.Name]...)
	case "sel":
		if f := m.must(&e.Kids[0], api.Bool); f != nil {
			return f
		}
		k, f := m.alike(e.Kids[1:], want, e.At)
		e.Kind = k
		return f
	case "shl", "shr", "rol", "ror":
		e.Kind = api.Word
		return first(
			func() *api.Fault { return m.must(&e.Kids[0], api.Word) },
			func() *api.Fault { return m.must(&e.Kids[1], api.Int) },
		)
	}
	turn := conversion(e.Name)
	e.Kind = turn[1]
	return m.must(&e.Kids[0], turn[0])
}

func (m *model) list(l []api.Stmt) *api.Fault {
	for i := range l {
		if f := m.stmt(&l[i]); f != nil {
			return f
		}
	}
	return nil
}

func (m *model) around(l []api.Stmt) *api.Fault {
	m.loops++
	f := m.list(l)
	m.loops--
	return f
}

func (m *model) stmt(s *api.Stmt) *api.Fault {
	switch s.Verb {
	case api.Set:
		return first(
			func() *api.Fault { return m.value(s.Name, s.Item, s.At) },
			func() *api.Fault { return m.write(s.Name, s.At) },
			func() *api.Fault {
				if !s.Item {
					return nil
				}
				return m.oneOf(&s.E[1], api.None, api.Int, api.Dint)
			},
			func() *api.Fault { return m.must(&s.E[0], m.find(s.Name).Kind) },
		)
	case api.Invoke:
		return m.invoke(s)
	case api.If:
		for i := range s.Arms {
			if f := first(func() *api.Fault { return m.must(&s.Arms[i].E, api.Bool) }, func() *api.Fault { return m.list(s.Arms[i].Body) }); f != nil {
				return f
			}
		}
		return m.list(s.Else)
	case api.Case:
		return m.choose(s)
	case api.For:
		return m.count(s)
	case api.While:
		return first(func() *api.Fault { return m.must(&s.E[0], api.Bool) }, func() *api.Fault { return m.around(s.Body) })
	case api.Repeat:
		return first(func() *api.Fault { return m.around(s.Body) }, func() *api.Fault { return m.must(&s.E[0], api.Bool) })
	case api.Exit, api.Next:
		if m.loops == 0 {
			return fault(api.ErrLoop, s.At)
		}
	}
	return nil
}

func (m *model) write(name string, at int) *api.Fault {
	v := m.find(name)
	if v.Role == api.Input || slices.Contains(m.counts, name) {
		return fault(api.ErrWrite, at)
	}
	if v.Role != api.Extern {
		return nil
	}
	if g := m.global(name); g.Dir == api.FromField || g.Dir == api.Setting || slices.Contains(m.others, name) {
		return fault(api.ErrWrite, at)
	}
	m.mine = append(m.mine, name)
	return nil
}

func (m *model) invoke(s *api.Stmt) *api.Fault {
	v := m.find(s.Name)
	if v == nil {
		return fault(api.ErrName, s.At)
	}
	if v.Of == "" {
		return fault(api.ErrKind, s.At)
	}
	ins, outs := m.pinsOf(v)
	for i := range s.Args {
		a := &s.Args[i]
		k := pinNamed(ins, a.Name)
		if a.Out {
			k = pinNamed(outs, a.Name)
		}
		if k == api.None {
			return fault(api.ErrName, a.At)
		}
		if slices.ContainsFunc(s.Args[:i], func(b api.Arg) bool { return b.Name == a.Name && b.Out == a.Out }) {
			return fault(api.ErrTwice, a.At)
		}
		if !a.Out {
			if f := m.must(&a.E, k); f != nil {
				return f
			}
			continue
		}
		if f := first(func() *api.Fault { return m.value(a.To, false, a.At) }, func() *api.Fault { return m.write(a.To, a.At) }); f != nil {
			return f
		}
		if m.find(a.To).Kind != k {
			return fault(api.ErrKind, a.At)
		}
	}
	return nil
}

func (m *model) choose(s *api.Stmt) *api.Fault {
	if f := m.oneOf(&s.E[0], api.None, api.Int, api.Dint, api.Word); f != nil {
		return f
	}
	var ahead [][2]int
	for i := range s.Arms {
		for _, l := range s.Arms[i].Labels {
			if !cell.Fits(s.E[0].Kind, l[0]) || !cell.Fits(s.E[0].Kind, l[1]) {
				return fault(api.ErrRange, s.At)
			}
			for _, o := range ahead {
				if max(l[0], o[0]) <= min(l[1], o[1]) {
					return fault(api.ErrTwice, s.At)
				}
			}
			ahead = append(ahead, l)
		}
		if f := m.list(s.Arms[i].Body); f != nil {
			return f
		}
	}
	return m.list(s.Else)
}

func (m *model) count(s *api.Stmt) *api.Fault {
	if f := m.value(s.Name, false, s.At); f != nil {
		return f
	}
	v := m.find(s.Name)
	switch {
	case v.Kind != api.Int && v.Kind != api.Dint:
		return fault(api.ErrKind, s.At)
	case v.Role != api.Own || slices.Contains(m.counts, v.Name):
		return fault(api.ErrWrite, s.At)
	case !cell.Fits(v.Kind, s.From) || s.To >= s.From && !cell.Fits(v.Kind, s.To):
		return fault(api.ErrRange, s.At)
	}
	m.counts = append(m.counts, v.Name)
	f := m.around(s.Body)
	m.counts = m.counts[:len(m.counts)-1]
	return f
}
