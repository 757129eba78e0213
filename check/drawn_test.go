package check_test

import (
	"fmt"
	"testing"

	"plantwright/api"
	"plantwright/check"
	"plantwright/source"
)

// die gives numbers that look drawn, the same each time.
type die uint64

func (d *die) n(most int) int {
	*d = *d*6364136223846793005 + 1442695040888963407
	return int(uint64(*d>>33) % uint64(most))
}

func pick[T any](d *die, l ...T) T {
	return l[d.n(len(l))]
}

// drawer draws lists of units: mostly right ones, in which one thing of so many (luck) is drawn at random. All places are told apart.
type drawer struct {
	die
	luck  int
	place int
	units []api.Unit
	unit  *api.Unit
	loops int
}

func (d *drawer) slip() bool {
	return d.n(d.luck) == 0
}

func (d *drawer) at() int {
	d.place++
	return d.place
}

func (d *drawer) kind() api.Kind {
	return api.Bool + api.Kind(d.n(5))
}

func (d *drawer) anyName() string {
	l := []string{"none", "ton", "abs", "x", "p0", "p1", "q", "in", "gf", "gt", "gm", "gs", "gz"}
	for _, v := range d.unit.Vars {
		l = append(l, v.Name)
	}
	for _, u := range d.units {
		l = append(l, u.Name)
	}
	return l[d.n(len(l))]
}

// those: the variables for which may holds.
func (d *drawer) those(may func(v api.Var) bool) []api.Var {
	var l []api.Var
	for _, v := range d.unit.Vars {
		if may(v) {
			l = append(l, v)
		}
	}
	if v := (api.Var{Name: d.unit.Name, Role: api.Own, Kind: d.unit.Result}); d.unit.Kind == api.Function && may(v) {
		l = append(l, v)
	}
	return l
}

// named: the name of a variable for which may holds; none of them: false. By a slip it is any name.
func (d *drawer) named(may func(v api.Var) bool) (string, bool) {
	if d.slip() {
		return d.anyName(), true
	}
	l := d.those(may)
	if len(l) == 0 {
		return "", false
	}
	return l[d.n(len(l))].Name, true
}

// pins of an instance; of what is none: nothing.
func (d *drawer) pins(v api.Var) ([]api.Pin, []api.Pin) {
	m := model{ahead: d.units}
	if m.unitNamed(v.Of, api.Block) != nil || v.Of == "ton" || v.Of == "ctu" {
		return m.pinsOf(&v)
	}
	return nil, nil
}

func (d *drawer) number(k api.Kind) int {
	n := pick(&d.die, 0, 1, 2, 7, 100, 32767)
	if k != api.Word {
		n *= pick(&d.die, 1, 1, -1)
	}
	if d.slip() || k == api.Dint {
		n = pick(&d.die, 70000, -70000, n, 32768, 65536, n)
	}
	if d.slip() {
		n = pick(&d.die, 1<<31, 1<<32-1, -1<<31-1, n)
	}
	return n
}

func (d *drawer) leaf(k api.Kind) api.Expr {
	switch d.n(3) {
	case 0:
		if name, ok := d.named(func(v api.Var) bool { return v.Kind == k && v.Len == 0 }); ok {
			return api.Expr{Form: api.Ref, Name: name, At: d.at()}
		}
	case 1:
		if e, ok := d.part(k); ok {
			return e
		}
	}
	return d.leafOf(k)
}

func (d *drawer) part(k api.Kind) (api.Expr, bool) {
	var l []api.Expr
	for _, v := range d.unit.Vars {
		_, outs := d.pins(v)
		for _, p := range outs {
			if p.Kind == k {
				l = append(l, api.Expr{Form: api.Part, Name: v.Name, Part: p.Name, At: d.at()})
			}
		}
	}
	if d.slip() {
		l = append(l[:0:0], api.Expr{Form: api.Part, Name: d.anyName(), Part: pick(&d.die, "q", "in", "o1", "i1"), At: d.at()})
	}
	if len(l) == 0 {
		return api.Expr{}, false
	}
	return l[d.n(len(l))], true
}

func (d *drawer) exprs(deep int, kinds ...api.Kind) []api.Expr {
	var l []api.Expr
	for _, k := range kinds {
		l = append(l, d.expr(k, deep-1))
	}
	return l
}

func (d *drawer) expr(k api.Kind, deep int) api.Expr {
	if d.slip() {
		k = d.kind()
	}
	if deep <= 0 || d.n(4) == 0 {
		return d.leaf(k)
	}
	e := api.Expr{At: d.at()}
	switch d.n(5) {
	case 0:
		e.Form, e.Op, e.Kids = api.Un, api.Neg, d.exprs(deep, k)
		if (k == api.Bool || k == api.Word) != d.slip() {
			e.Op = api.Not
		}
	case 1, 2:
		e.Form = api.Bin
		e.Op = d.op(k)
		if e.Op >= api.Eq {
			k = api.Int + api.Kind(d.n(4))
		}
		e.Kids = d.exprs(deep, k, k)
	case 3:
		name, ok := d.named(func(v api.Var) bool { return v.Kind == k && v.Len > 0 })
		if !ok {
			return d.leaf(k)
		}
		e.Form, e.Name, e.Kids = api.Item, name, d.exprs(deep, pick(&d.die, api.Int, api.Dint))
	case 4:
		e.Form = api.Call
		e.Name, e.Kids = d.called(k, deep)
	}
	return e
}

func (d *drawer) op(k api.Kind) api.Op {
	if d.slip() {
		return api.Add + api.Op(d.n(14))
	}
	switch k {
	case api.Bool:
		return pick(&d.die, api.And, api.Or, api.Xor, api.Eq, api.Lt, api.Ge, api.Ne)
	case api.Word:
		return pick(&d.die, api.And, api.Or, api.Xor)
	case api.Time:
		return pick(&d.die, api.Add, api.Sub)
	}
	return pick(&d.die, api.Add, api.Sub, api.Mul, api.Div, api.Mod)
}

// called: a function of that result, and its arguments; it may be one that has it not.
func (d *drawer) called(k api.Kind, deep int) (string, []api.Expr) {
	var kinds []api.Kind
	name := pick(&d.die, "abs", "max", "limit", "sel", "turn", "own", "own")
	number := k == api.Int || k == api.Dint
	switch {
	case d.slip():
		name = d.anyName()
	case k == api.Word && d.n(2) == 0:
		name, kinds = pick(&d.die, "shl", "shr", "rol", "ror"), []api.Kind{api.Word, api.Int}
	case name == "own":
		name, kinds = d.own(k)
	case name == "abs" && number:
		kinds = []api.Kind{k}
	case name == "max" && k != api.Bool:
		name, kinds = pick(&d.die, "min", "max"), []api.Kind{k, k}
	case name == "limit" && k != api.Bool:
		kinds = []api.Kind{k, k, k}
	case name == "sel":
		kinds = []api.Kind{api.Bool, k, k}
	default:
		from := 1 + (k+api.Kind(d.n(4)))%5
		words := [...]string{"", "bool", "int", "dint", "word", "time"}
		name, kinds = words[from]+"_to_"+words[k], []api.Kind{from}
	}
	if d.slip() || len(kinds) == 0 {
		kinds = append(kinds, k)
	}
	return name, d.exprs(deep, kinds[:min(len(kinds), api.MaxArgs)]...)
}

// own: a function of the list, if it has one of that result.
func (d *drawer) own(k api.Kind) (string, []api.Kind) {
	for i := range d.units {
		if u := &d.units[i]; u.Kind == api.Function && u.Result == k && len(rolePins(u, api.Input)) > 0 {
			var kinds []api.Kind
			for _, p := range rolePins(u, api.Input) {
				kinds = append(kinds, p.Kind)
			}
			return u.Name, kinds
		}
	}
	return "sel", []api.Kind{api.Bool, k, k}
}

func (d *drawer) list(deep int) []api.Stmt {
	var l []api.Stmt
	if deep > 0 {
		for range d.n(4) {
			l = append(l, d.stmt(deep-1))
		}
	}
	return l
}

func (d *drawer) loop(deep int) []api.Stmt {
	d.loops++
	l := d.list(deep)
	d.loops--
	return l
}

func (d *drawer) stmt(deep int) api.Stmt {
	s := api.Stmt{Verb: api.Verb(1 + d.n(9)), At: d.at()}
	if s.Verb >= api.Exit && d.loops == 0 && !d.slip() {
		s.Verb = api.Return
	}
	if s.Verb == api.Invoke && !d.slip() && len(d.those(func(v api.Var) bool { return v.Of != "" })) == 0 {
		s.Verb = api.Return
	}
	switch s.Verb {
	case api.Set:
		d.set(&s)
	case api.Invoke:
		l := d.those(func(v api.Var) bool { return v.Of != "" })
		if len(l) == 0 || d.slip() {
			l = []api.Var{{Name: d.anyName()}}
		}
		v := l[d.n(len(l))]
		s.Name, s.Args = v.Name, d.args(v)
	case api.If:
		for range 1 + d.n(3) {
			s.Arms = append(s.Arms, api.Arm{E: d.expr(api.Bool, 3), Body: d.list(deep)})
		}
		s.Else = d.list(deep)
	case api.Case:
		k := pick(&d.die, api.Int, api.Dint, api.Word)
		s.E = d.exprs(3, k)
		from := -3
		if k == api.Word {
			from = 0
		}
		for range 1 + d.n(3) {
			s.Arms = append(s.Arms, d.arm(&from, deep))
		}
		s.Else = d.list(deep)
	case api.For:
		name, ok := d.named(func(v api.Var) bool {
			return v.Role == api.Own && v.Len == 0 && (v.Kind == api.Int || v.Kind == api.Dint)
		})
		if !ok {
			return api.Stmt{Verb: api.Return, At: d.at()}
		}
		s.Name, s.From, s.By = name, d.number(api.Int), 1+d.n(3)
		s.To = s.From + d.n(30) - 5
		s.Body = d.loop(deep)
	case api.While, api.Repeat:
		s.E, s.Times, s.Body = d.exprs(3, api.Bool), 1+d.n(9), d.loop(deep)
	}
	return s
}

func isWritable(v api.Var) bool {
	return v.Role != api.Input && v.Name != "gf" && v.Name != "gs"
}

func (d *drawer) set(s *api.Stmt) {
	l := d.those(func(v api.Var) bool { return v.Of == "" && isWritable(v) })
	if len(l) == 0 || d.slip() {
		l = []api.Var{{Name: d.anyName(), Kind: d.kind(), Len: d.n(2)}}
	}
	v := l[d.n(len(l))]
	s.Name, s.Item, s.E = v.Name, v.Len > 0, d.exprs(4, v.Kind)
	if d.slip() {
		s.Item = !s.Item
	}
	if s.Item {
		s.E = append(s.E, d.expr(api.Int, 3))
	}
}

func (d *drawer) arm(from *int, deep int) api.Arm {
	a := api.Arm{}
	for range 1 + d.n(3) {
		n := *from + d.n(3)
		if d.slip() {
			n -= 4
		}
		if d.slip() {
			n += pick(&d.die, 32768, 70000)
		}
		to := n + d.n(3)
		a.Labels = append(a.Labels, [2]int{n, to})
		*from = to + 1
	}
	a.Body = d.list(deep)
	return a
}

func (d *drawer) args(v api.Var) []api.Arg {
	var l []api.Arg
	ins, outs := d.pins(v)
	for _, p := range ins {
		if d.n(2) == 0 {
			l = append(l, api.Arg{Name: p.Name, E: d.expr(p.Kind, 3), At: d.at()})
		}
	}
	for _, p := range outs {
		to, ok := d.named(func(v api.Var) bool { return v.Kind == p.Kind && v.Len == 0 && isWritable(v) })
		if ok && d.n(2) == 0 {
			l = append(l, api.Arg{Name: p.Name, Out: true, To: to, At: d.at()})
		}
	}
	if len(l) > 0 && d.slip() {
		l = append(l, l[d.n(len(l))])
	}
	if d.slip() {
		l = append(l, api.Arg{Name: d.anyName(), E: d.expr(d.kind(), 2), At: d.at()})
	}
	if len(l) > 2*api.MaxArgs {
		l = l[:2*api.MaxArgs]
	}
	for i := range l {
		l[i].At = d.at()
	}
	return l
}

func (d *drawer) variable(i int) api.Var {
	k := d.unit.Kind
	v := api.Var{Name: fmt.Sprintf("v%d", i), Role: roles[k][d.n(len(roles[k]))], Kind: d.kind(), At: d.at()}
	if v.Role == api.Input {
		v.Name = fmt.Sprintf("i%d", i)
	}
	if v.Role == api.Output {
		v.Name = fmt.Sprintf("o%d", i)
	}
	if v.Role == api.Extern {
		g := globals()[d.n(5)]
		v.Name, v.Kind = g.Name, g.Kind
	} else if v.Role != api.Input && v.Role != api.Output {
		switch d.n(4) {
		case 0:
			v.Len = 1 + d.n(5)
		case 1:
			if k != api.Function {
				v.Kind, v.Of = api.None, d.block()
			}
		}
	}
	if v.Of == "" && v.Role != api.Extern && d.n(2) == 0 {
		v.Init = d.leafOf(v.Kind)
	}
	if d.slip() {
		v.Role = api.Own + api.Role(d.n(5))
	}
	if d.slip() {
		v.Name = d.anyName()
	}
	if d.slip() {
		v.Init = d.leafOf(d.kind())
	}
	if d.slip() && v.Of != "" {
		v.Of = d.anyName()
	}
	return v
}

func (d *drawer) block() string {
	l := []string{"ton", "ctu"}
	for _, u := range d.units {
		if u.Kind == api.Block {
			l = append(l, u.Name)
		}
	}
	return l[d.n(len(l))]
}

func (d *drawer) leafOf(k api.Kind) api.Expr {
	if k == api.Bool || k == api.Time {
		return api.Expr{Form: api.Lit, Kind: k, N: d.n(2), At: d.at()}
	}
	return api.Expr{Form: api.Lit, N: d.number(k), At: d.at()}
}

func (d *drawer) add() {
	u := api.Unit{Kind: api.UnitKind(1 + d.n(3)), At: d.at()}
	i := len(d.units)
	u.Name = fmt.Sprintf("%c%d", " pfb"[u.Kind], i)
	if u.Kind == api.Function {
		u.Result = d.kind()
	}
	d.unit = &u
	n := d.n(14)
	for i := range n {
		v := d.variable(i)
		for j := range u.Vars { // two externs of one global are drawn by a slip alone
			if u.Vars[j].Name == v.Name && !d.slip() {
				v.Name = fmt.Sprintf("w%d", i)
				v.Role = api.Own
			}
		}
		u.Vars = append(u.Vars, v)
	}
	if d.slip() {
		u.Name = d.anyName()
	}
	u.Body = d.list(3)
	d.units = append(d.units, u)
}

// Whatever is drawn, Check answers as the model does.
func TestDrawn(t *testing.T) {
	told := map[api.Errno]int{}
	for seed := range 20000 {
		d := &drawer{die: die(seed), luck: []int{1000, 200, 60, 15}[seed%4]}
		for range 1 + d.n(4) {
			d.add()
		}
		got, f := check.Check(d.units, globals())
		text := fmt.Sprintf("%+v", got)
		want, wf := modelCheck(d.units, globals())
		if f != wf || text != fmt.Sprintf("%+v", want) {
			for _, u := range d.units {
				t.Log(source.Show(u))
			}
			t.Fatalf("seed %d: %v, not %v", seed, f, wf)
		}
		told[f.Code]++
	}
	// what is drawn has all faults of units in it, and many lists without one
	for code, least := range map[api.Errno]int{api.OK: 3000, api.ErrRange: 500, api.ErrSize: 50, api.ErrKind: 3000, api.ErrName: 1000, api.ErrTwice: 200, api.ErrWrite: 200, api.ErrCall: 100, api.ErrLoop: 50} {
		if told[code] < least {
			t.Errorf("%d only %d times: %v", code, told[code], told)
		}
	}
}
