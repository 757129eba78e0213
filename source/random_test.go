package source_test

import (
	"math/rand"
	"reflect"
	"strings"
	"testing"

	"plantwright/api"
	"plantwright/source"
)

// drawer draws trees that may be, if they are not too deep.
type drawer struct {
	*rand.Rand
}

func (d drawer) name() string {
	return []string{"a", "b", "x1", "_", "ton", "t", strings.Repeat("n", api.MaxName)}[d.Intn(7)]
}

func (d drawer) number() int {
	n := []int{0, 1, 5, 1000, api.MaxNumber}[d.Intn(5)]
	return n * (1 - 2*d.Intn(2))
}

func (d drawer) literal() api.Expr {
	switch d.Intn(4) {
	case 0:
		return api.Expr{Form: api.Lit, Kind: api.Bool, N: d.Intn(2)}
	case 1:
		return api.Expr{Form: api.Lit, Kind: api.Time, N: d.Intn(1 << 32)}
	}
	return lit(d.number(), 0)
}

func (d drawer) expr(deep int) api.Expr {
	form := api.Form(1 + d.Intn(7))
	if deep <= 0 {
		form = []api.Form{api.Lit, api.Ref, api.Part}[d.Intn(3)]
	}
	switch form {
	case api.Lit:
		return d.literal()
	case api.Ref:
		return ref(d.name(), 0)
	case api.Part:
		return api.Expr{Form: form, Name: d.name(), Part: d.name()}
	case api.Item:
		return api.Expr{Form: form, Name: d.name(), Kids: []api.Expr{d.expr(deep - 1)}}
	case api.Un:
		return un([]api.Op{api.Not, api.Neg}[d.Intn(2)], d.expr(deep-1))
	case api.Bin:
		return bin(api.Add+api.Op(d.Intn(14)), d.expr(deep-1), d.expr(deep-1))
	}
	e := api.Expr{Form: api.Call, Name: []string{d.name(), "max"}[d.Intn(2)]}
	for range 1 + d.Intn(3) {
		e.Kids = append(e.Kids, d.expr(deep-1))
	}
	return e
}

func (d drawer) list(deep int) []api.Stmt {
	var l []api.Stmt
	if deep > 0 {
		for range d.Intn(4) {
			l = append(l, d.stmt(deep-1))
		}
	}
	return l
}

func (d drawer) stmt(deep int) api.Stmt {
	s := api.Stmt{Verb: api.Verb(1 + d.Intn(10))}
	if s.Verb == api.Case || s.Verb == api.While || s.Verb == api.Repeat || s.Verb == api.Set {
		s.E = []api.Expr{d.expr(deep)}
	}
	switch s.Verb {
	case api.Set:
		s.Name = d.name()
		if s.Item = d.Intn(2) == 0; s.Item {
			s.E = append(s.E, d.expr(deep))
		}
	case api.Invoke:
		s.Name = d.name()
		for range d.Intn(4) {
			s.Args = append(s.Args, []api.Arg{{Name: d.name(), E: d.expr(deep)}, {Name: d.name(), Out: true, To: d.name()}}[d.Intn(2)])
		}
	case api.If, api.Case:
		for range 1 + d.Intn(3) {
			s.Arms = append(s.Arms, d.arm(s.Verb, deep))
		}
		s.Else = d.list(deep)
	case api.For:
		s.Name, s.From, s.By, s.Body = d.name(), d.number()/2, 1+d.Intn(3), d.list(deep)
		s.To = s.From + d.Intn(api.MaxTimes+5) - 5
	case api.While, api.Repeat:
		s.Times, s.Body = 1+d.Intn(api.MaxTimes), d.list(deep)
	}
	return s
}

func (d drawer) arm(v api.Verb, deep int) api.Arm {
	a := api.Arm{Body: d.list(deep)}
	if v == api.If {
		a.E = d.expr(deep)
		return a
	}
	for range 1 + d.Intn(3) {
		from := d.number()
		a.Labels = append(a.Labels, [2]int{from, min(from+d.Intn(3), api.MaxNumber)})
	}
	return a
}

func (d drawer) unit() api.Unit {
	u := api.Unit{Kind: api.UnitKind(1 + d.Intn(3)), Name: d.name(), Body: d.list(1 + d.Intn(5))}
	if u.Kind == api.Function {
		u.Result = api.Kind(1 + d.Intn(5))
	}
	for range d.Intn(6) {
		v := api.Var{Name: d.name(), Role: api.Role(1 + d.Intn(5)), Kind: api.Kind(d.Intn(6))}
		if v.Kind == api.None {
			v.Of = d.name()
		} else if d.Intn(3) == 0 {
			v.Low, v.Len = d.Intn(100)-50, 1+d.Intn(api.MaxLen)
		}
		if d.Intn(2) == 0 {
			v.Init = d.literal()
		}
		u.Vars = append(u.Vars, v)
	}
	return u
}

// What is shown of a unit that may be is read again as it was.
func TestShownIsRead(t *testing.T) {
	d := drawer{rand.New(rand.NewSource(2))}
	for range 3000 {
		u := d.unit()
		if !source.May(u) {
			t.Fatalf("it may not be: %+v", u)
		}
		if len(source.Show(u)) <= api.MaxText {
			again(t, u, true)
		}
	}
}

// Letters of a shown text may be great or small, and what stands between its tokens does not count.
func TestNoise(t *testing.T) {
	d := drawer{rand.New(rand.NewSource(3))}
	for range 300 {
		u := d.unit()
		s := source.Show(u)
		noisy := strings.NewReplacer("\n", " // ; (* \r\n", "  ", "\t(* END_IF *)", " ", " \r\n").Replace(strings.ToLower(s))
		if len(noisy) > api.MaxText {
			continue
		}
		if l, f := source.Parse(noisy + s); f != (api.Fault{}) || !alike(l, []api.Unit{u, u}) {
			t.Errorf("%q: %v", noisy, f)
		}
	}
}

const strange = "();:=.,#%_-+*/<>[]' \n0aT\x00\xff"

// Whatever is handed in, the answer is either units that may be or a fault within the text; Heads and Expression end within it.
func TestSpoiltTexts(t *testing.T) {
	d := drawer{rand.New(rand.NewSource(4))}
	for range 3000 {
		s := source.Show(d.unit())
		if len(s) > 3000 {
			continue
		}
		b := []byte(s)
		for range 1 + d.Intn(3) {
			b[d.Intn(len(b))] = strange[d.Intn(len(strange))]
		}
		s = string(b)
		l, f := source.Parse(s)
		if f.Code == api.OK && len(l) == 0 || f.Code != api.OK && len(l) > 0 || f.At < 0 || f.At > len(s) || f.Unit < 0 || f.Unit > api.MaxUnits {
			t.Fatalf("%q: %d units, %v", s, len(l), f)
		}
		for _, u := range l {
			again(t, u, true)
		}
		at := d.Intn(len(s) + 1)
		vars, end, f := source.Heads(s, at)
		checkPart(t, s, at, end, f, len(vars) == 0)
		e, end, f := source.Expression(s, at)
		checkPart(t, s, at, end, f, reflect.DeepEqual(e, api.Expr{}))
	}
}

func checkPart(t *testing.T, s string, at, end int, f api.Fault, empty bool) {
	t.Helper()
	if f.Code == api.OK && (end < at || end > len(s) || f != (api.Fault{})) {
		t.Errorf("%q from %d: ends at %d, %v", s, at, end, f)
	}
	if f.Code != api.OK && (end != 0 || !empty || f.Unit != 0 || f.At < at || f.At > len(s)) {
		t.Errorf("%q from %d: ends at %d, %v", s, at, end, f)
	}
}

// An expression that stands anywhere in a text is the one that Expression reads there.
func TestPartsOfUnits(t *testing.T) {
	d := drawer{rand.New(rand.NewSource(5))}
	for range 500 {
		e := d.expr(4)
		text := shownExpr(e)
		u := one(t, "PROGRAM p VAR v : INT; END_VAR y := "+text+" ; END_PROGRAM")
		s := "VAR v : INT; END_VAR y := " + text + " ; END_PROGRAM"
		vars, end, f := source.Heads(s, 0)
		if end != strings.Index(s, "y :=") || f != (api.Fault{}) || len(vars) != 1 || vars[0].At != 4 {
			t.Errorf("%q: %v, %d, %v", s, vars, end, f)
		}
		got, end, f := source.Expression("PROGRAM p "+s, len("PROGRAM p ")+strings.Index(s, "= ")+1)
		if end != len("PROGRAM p ")+strings.Index(s, " ; END")+1 || f != (api.Fault{}) || !reflect.DeepEqual(got, u.Body[0].E[0]) {
			t.Errorf("%q: %s, %d, %v", s, told(got), end, f)
		}
	}
}
