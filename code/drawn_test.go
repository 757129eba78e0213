package code_test

import (
	"fmt"
	"reflect"
	"testing"

	"plantwright/api"
	"plantwright/blocks"
	"plantwright/code"
	"plantwright/source"
)

// drawer draws lists of units that are right.
type drawer struct {
	die
	units []api.Unit
	unit  *api.Unit
	loops int
	busy  []string // the variables of FORs around
}

var globals = []api.Global{{Name: "g1", Kind: api.Bool, Dir: api.FromField}, {Name: "g2", Kind: api.Int, Dir: api.Setting}, {Name: "g3", Kind: api.Dint, Dir: api.FromField}}

func (d *drawer) kind() api.Kind {
	return api.Bool + api.Kind(d.n(5))
}

// those: the variables for which may holds.
func (d *drawer) those(may func(v api.Var) bool) []api.Var {
	var l []api.Var
	for _, v := range d.unit.Vars {
		if may(v) {
			l = append(l, v)
		}
	}
	if v := (api.Var{Name: d.unit.Name, Role: api.Own, Kind: d.unit.Result}); d.unit.Kind == api.Function && may(v) {
		l = append(l, v)
	}
	return l
}

func (d *drawer) isBusy(name string) bool {
	return indexOf(d.busy, name) >= 0
}

func (d *drawer) writable(v api.Var) bool {
	return v.Of == "" && v.Role != api.Input && v.Role != api.Extern && !d.isBusy(v.Name)
}

// pins of an instance.
func (d *drawer) pins(v api.Var) (ins, outs []api.Pin) {
	if s, ok := blocks.Shape(v.Of); ok {
		return s.Ins, s.Outs
	}
	for i := range d.units {
		if d.units[i].Name == v.Of {
			return rolePins(&d.units[i], api.Input), rolePins(&d.units[i], api.Output)
		}
	}
	return nil, nil
}

func rolePins(u *api.Unit, role api.Role) []api.Pin {
	var l []api.Pin
	for _, v := range u.Vars {
		if v.Role == role {
			l = append(l, api.Pin{Name: v.Name, Kind: v.Kind})
		}
	}
	return l
}

func (d *drawer) literal(k api.Kind) api.Expr {
	e := api.Expr{Form: api.Lit, Kind: k}
	switch k {
	case api.Bool:
		e.N = d.n(2)
	case api.Time:
		e.N = pick(&d.die, 0, 1, 3, 4294967295)
	case api.Word:
		e.Kind, e.N = api.None, pick(&d.die, 0, 1, 2, 5, 255, 65535)
	default:
		e.Kind, e.N = api.None, pick(&d.die, 0, 0, 1, 1, 2, 3, 7, -1, -2, 32767, -32768)
	}
	return e
}

// typed: the same, with a kind of its own wherever it stands.
func (d *drawer) typed(k api.Kind) api.Expr {
	e := d.literal(k)
	if e.Kind != api.None {
		return e
	}
	from, name := api.Int, map[api.Kind]string{api.Dint: "int_to_dint", api.Word: "int_to_word", api.Int: "dint_to_int"}[k]
	if k == api.Int {
		from = api.Dint
	}
	return api.Expr{Form: api.Call, Name: name, Kids: []api.Expr{d.literal(from)}}
}

func (d *drawer) leaf(k api.Kind) api.Expr {
	if d.n(3) == 0 {
		return d.typed(k)
	}
	var l []api.Expr
	for _, v := range d.those(func(v api.Var) bool { return v.Kind == k && v.Len == 0 }) {
		l = append(l, api.Expr{Form: api.Ref, Name: v.Name})
	}
	for _, v := range d.unit.Vars {
		_, outs := d.pins(v)
		for _, p := range outs {
			if p.Kind == k {
				l = append(l, api.Expr{Form: api.Part, Name: v.Name, Part: p.Name})
			}
		}
	}
	if len(l) == 0 {
		return d.typed(k)
	}
	return l[d.n(len(l))]
}

func (d *drawer) exprs(deep int, kinds ...api.Kind) []api.Expr {
	var l []api.Expr
	for _, k := range kinds {
		l = append(l, d.expr(k, deep-1))
	}
	return l
}

func (d *drawer) expr(k api.Kind, deep int) api.Expr {
	if deep <= 0 || d.n(5) == 0 {
		return d.leaf(k)
	}
	e := api.Expr{}
	switch d.n(6) {
	case 0:
		e.Form, e.Op, e.Kids = api.Un, api.Neg, d.exprs(deep, k)
		if k == api.Bool || k == api.Word {
			e.Op = api.Not
		}
		if k == api.Time {
			return e.Kids[0]
		}
	case 1, 2:
		e.Form, e.Op = api.Bin, d.op(k)
		if e.Op >= api.Eq {
			k = api.Int + api.Kind(d.n(4))
		}
		e.Kids = d.exprs(deep, k, k)
	case 3:
		l := d.those(func(v api.Var) bool { return v.Kind == k && v.Len > 0 })
		if len(l) == 0 {
			return d.leaf(k)
		}
		e.Form, e.Name, e.Kids = api.Item, l[d.n(len(l))].Name, d.exprs(deep, pick(&d.die, api.Int, api.Dint))
	default:
		e.Form = api.Call
		e.Name, e.Kids = d.called(k, deep)
	}
	return e
}

func (d *drawer) op(k api.Kind) api.Op {
	switch k {
	case api.Bool:
		return pick(&d.die, api.And, api.Or, api.Xor, api.Eq, api.Lt, api.Ge, api.Ne, api.Le, api.Gt)
	case api.Word:
		return pick(&d.die, api.And, api.Or, api.Xor)
	case api.Time:
		return pick(&d.die, api.Add, api.Sub)
	}
	return pick(&d.die, api.Add, api.Sub, api.Mul, api.Div, api.Mod)
}

func (d *drawer) called(k api.Kind, deep int) (string, []api.Expr) {
	kinds := []api.Kind{k, k}
	name := pick(&d.die, "abs", "max", "limit", "sel", "turn", "own", "own", "own")
	number := k == api.Int || k == api.Dint
	switch {
	case k == api.Word && d.n(2) == 0:
		name, kinds = pick(&d.die, "shl", "shr", "rol", "ror"), []api.Kind{api.Word, api.Int}
	case name == "own":
		name, kinds = d.own(k)
	case name == "abs" && number:
		kinds = kinds[1:]
	case name == "max" && k != api.Bool:
		name = pick(&d.die, "min", "max")
	case name == "limit" && k != api.Bool:
		kinds = append(kinds, k)
	case name == "sel":
		kinds = []api.Kind{api.Bool, k, k}
	default:
		from := 1 + (k+api.Kind(d.n(4)))%5
		words := [...]string{"", "bool", "int", "dint", "word", "time"}
		name, kinds = words[from]+"_to_"+words[k], []api.Kind{from}
	}
	return name, d.exprs(deep, kinds...)
}

// own: a function of the list, if it has one of that result.
func (d *drawer) own(k api.Kind) (string, []api.Kind) {
	for i := range d.units {
		u := &d.units[(i+d.n(8))%len(d.units)]
		ins := rolePins(u, api.Input)
		if u.Kind != api.Function || u.Result != k || len(ins) == 0 {
			continue
		}
		var kinds []api.Kind
		for _, p := range ins {
			kinds = append(kinds, p.Kind)
		}
		return u.Name, kinds
	}
	return "sel", []api.Kind{api.Bool, k, k}
}

func (d *drawer) list(deep int) []api.Stmt {
	var l []api.Stmt
	if deep > 0 {
		for range d.n(5) {
			l = append(l, d.stmt(deep-1))
		}
	}
	return l
}

func (d *drawer) loop(deep int) []api.Stmt {
	d.loops++
	l := d.list(deep)
	d.loops--
	return l
}

func (d *drawer) stmt(deep int) api.Stmt {
	s := api.Stmt{Verb: pick(&d.die, api.Set, api.Set, api.Set, api.Set, api.Invoke, api.Invoke, api.If, api.Case, api.For, api.While, api.Repeat, api.Exit, api.Next, api.Return)}
	switch {
	case s.Verb == api.Return && d.n(3) > 0:
		s.Verb = api.If
	case (s.Verb == api.Exit || s.Verb == api.Next) && d.loops == 0:
		s.Verb = api.If
	}
	switch s.Verb {
	case api.Set:
		d.set(&s)
	case api.Invoke:
		l := d.those(func(v api.Var) bool { return v.Of != "" })
		if len(l) == 0 {
			d.set(&s)
			break
		}
		v := l[d.n(len(l))]
		s.Name, s.Args = v.Name, d.args(v)
	case api.If:
		for range 1 + d.n(3) {
			s.Arms = append(s.Arms, api.Arm{E: d.expr(api.Bool, 3), Body: d.list(deep)})
		}
		s.Else = d.list(deep)
	case api.Case:
		d.choice(&s, deep)
	case api.For:
		d.forLoop(&s, deep)
	case api.While, api.Repeat:
		s.E, s.Times, s.Body = d.exprs(3, api.Bool), 1+d.n(4), d.loop(deep)
	}
	return s
}

func (d *drawer) set(s *api.Stmt) {
	l := d.those(d.writable)
	if len(l) == 0 {
		*s = api.Stmt{Verb: api.Return}
		return
	}
	v := l[d.n(len(l))]
	s.Verb, s.Name, s.Item, s.E = api.Set, v.Name, v.Len > 0, d.exprs(4, v.Kind)
	if s.Item {
		s.E = append(s.E, d.expr(pick(&d.die, api.Int, api.Dint), 3))
	}
}

func (d *drawer) choice(s *api.Stmt, deep int) {
	k := pick(&d.die, api.Int, api.Dint, api.Word)
	s.E = d.exprs(3, k)
	from := 0
	if k != api.Word {
		from = -3
	}
	for range 1 + d.n(3) {
		a := api.Arm{}
		for range 1 + d.n(3) {
			n := from + d.n(2)
			from = n + d.n(3)
			a.Labels = append(a.Labels, [2]int{n, from})
			from++
		}
		a.Body = d.list(deep)
		s.Arms = append(s.Arms, a)
	}
	s.Else = d.list(deep)
}

func (d *drawer) forLoop(s *api.Stmt, deep int) {
	l := d.those(func(v api.Var) bool {
		return d.writable(v) && v.Role == api.Own && v.Len == 0 && (v.Kind == api.Int || v.Kind == api.Dint)
	})
	if len(l) == 0 {
		*s = api.Stmt{Verb: api.Return}
		return
	}
	v := l[d.n(len(l))]
	s.Name, s.From, s.By = v.Name, pick(&d.die, 0, 1, -3, 32760, -32768), 1+d.n(3)
	s.To = s.From + d.n(9) - 2
	d.busy = append(d.busy, v.Name)
	s.Body = d.loop(deep)
	d.busy = d.busy[:len(d.busy)-1]
}

func (d *drawer) args(v api.Var) []api.Arg {
	var l []api.Arg
	ins, outs := d.pins(v)
	for _, p := range ins {
		if d.n(3) > 0 {
			l = append(l, api.Arg{Name: p.Name, E: d.expr(p.Kind, 3)})
		}
	}
	for _, p := range outs {
		to := d.those(func(v api.Var) bool { return d.writable(v) && v.Kind == p.Kind && v.Len == 0 })
		if len(to) > 0 && d.n(2) == 0 {
			l = append(l, api.Arg{Name: p.Name, Out: true, To: to[d.n(len(to))].Name})
		}
	}
	for i := range l { // in any order
		j := d.n(i + 1)
		l[i], l[j] = l[j], l[i]
	}
	return l
}

func (d *drawer) variable(i int) api.Var {
	roles := map[api.UnitKind][]api.Role{
		api.Program: {api.Own, api.Own, api.Own, api.Keep, api.Extern}, api.Function: {api.Own, api.Input}, api.Block: {api.Own, api.Own, api.Keep, api.Input, api.Output},
	}[d.unit.Kind]
	v := api.Var{Name: fmt.Sprint("v", i), Role: roles[d.n(len(roles))], Kind: d.kind()}
	if i == 0 && d.unit.Kind == api.Function {
		v.Role = api.Input
	}
	if v.Role == api.Extern {
		if g := globals[d.n(len(globals))]; len(d.those(func(v api.Var) bool { return v.Name == g.Name })) == 0 {
			v.Name, v.Kind = g.Name, g.Kind
			return v
		}
		v.Role = api.Own
	}
	if v.Role == api.Own || v.Role == api.Keep {
		switch d.n(4) {
		case 0:
			v.Low, v.Len = d.n(5)-2, 1+d.n(4)
		case 1:
			if d.unit.Kind != api.Function {
				v.Kind, v.Of = api.None, d.block()
				return v
			}
		}
	}
	if d.n(2) == 0 {
		v.Init = d.literal(v.Kind)
	}
	return v
}

func (d *drawer) block() string {
	l := []string{"ton", "tof", "tp", "ctu", "ctd", "ctud", "r_trig", "f_trig", "sr", "rs", "ramp", "hyst"}
	for _, u := range d.units {
		if u.Kind == api.Block {
			l = append(l, u.Name, u.Name, u.Name, u.Name)
		}
	}
	return l[d.n(len(l))]
}

func (d *drawer) add(kind api.UnitKind) {
	u := api.Unit{Kind: kind, At: 100 + len(d.units)}
	u.Name = fmt.Sprintf("%c%d", " pfb"[u.Kind], len(d.units))
	if u.Kind == api.Function {
		u.Result = d.kind()
	}
	d.unit = &u
	for i := range 1 + d.n(9) {
		u.Vars = append(u.Vars, d.variable(i))
	}
	for len(rolePins(&u, api.Input)) > api.MaxArgs {
		u.Vars = u.Vars[1:]
	}
	u.Body = d.list(3)
	d.units = append(d.units, u)
}

func drawUnits(seed int) []api.Unit {
	d := &drawer{die: die(seed)}
	for range d.n(4) {
		d.add(pick(&d.die, api.Function, api.Function, api.Block, api.Program))
	}
	d.add(pick(&d.die, api.Program, api.Program, api.Block, api.Function))
	return d.units
}

func showAll(t *testing.T, us []api.Unit) {
	for _, u := range us {
		t.Log("\n" + source.Show(u))
	}
}

// Whatever is drawn, its code lies and runs as the units mean, within its bound.
func TestDrawnUnits(t *testing.T) {
	runs, faulty := 0, 0
	for seed := range 3000 {
		us := drawUnits(seed)
		w := newWorld(us, globals)
		if w == nil {
			showAll(t, us)
			t.Fatalf("seed %d is not right", seed)
		}
		c, f := code.Compile(us, globals)
		if f.Code == api.ErrSlow || f.Code == api.ErrSize {
			continue
		}
		bounds, g := code.Verify(c)
		if f != (api.Fault{}) || g != (api.Fault{}) {
			showAll(t, us)
			t.Fatalf("seed %d: %v, %v", seed, f, g)
		}
		for at := range us {
			if bounds[at] > 200000 {
				continue
			}
			if !runsAlike(t, w, c, at, bounds[at]) {
				showAll(t, us)
				t.Fatalf("seed %d", seed)
			}
			runs++
			if w.faults > 0 {
				faulty++
			}
		}
	}
	if runs < 5000 || faulty < 500 {
		t.Errorf("%d runs, %d with faults", runs, faulty)
	}
}

// runsAlike: some runs of a unit, one behind the other.
func runsAlike(t *testing.T, w *world, c api.Code, at, bound int) bool {
	t.Helper()
	s := w.begin(&w.units[at])
	p := c.Procs[at]
	if fmt.Sprint(p.First) != fmt.Sprint(s.frame()) || toldSlots(p.Slots) != toldSlots(s.slots(0, "", false)) {
		t.Errorf("it lies so: %v, %s", p.First, toldSlots(p.Slots))
		return false
	}
	frame := p.First
	for now := range 4 {
		w.now, w.faults = now*2, 0
		w.list(s, atFirst(s))
		r := code.Run(c, at, frame, now*2)
		want := s.frame()
		if len(want) > 0 && !reflect.DeepEqual(r.Frame, want) || r.Faults != w.faults || r.Code != api.OK || r.Steps > bound {
			t.Errorf("unit %d, run %d of %v: %v, not %v and %d faults; bound %d\n%s", at, now, frame, r, want, w.faults, bound, listing(p.Text))
			return false
		}
		frame = r.Frame
	}
	return true
}

// atFirst: a function that is run by itself begins anew, too.
func atFirst(s *scope) []api.Stmt {
	if s.unit.Kind == api.Function {
		s.words[s.unit.Name] = []int{0}
		for _, v := range s.unit.Vars {
			if v.Role == api.Own {
				s.atFirst(v)
			}
		}
	}
	return s.unit.Body
}
