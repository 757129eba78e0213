package check

import (
	"plantwright/api"
	"plantwright/cell"
)

// wants looks at an expression that has to be of a kind.
func (d *desk) wants(e *api.Expr, k api.Kind) {
	if d.look(e, k) != k {
		giveUp(api.ErrKind, e.At)
	}
}

// look gives an expression its kind, and tells it. Nothing is wanted, if want is None.
func (d *desk) look(e *api.Expr, want api.Kind) api.Kind {
	if d.isBare(e, want) {
		settle(e, want)
	}
	return e.Kind
}

// isBare: is the expression bare? If not, it is looked at on the way; a bare one is left as it is, without a kind, till it is known what it stands with. So each part is gone through twice at most, however long a sum is.
func (d *desk) isBare(e *api.Expr, want api.Kind) bool {
	switch e.Form {
	case api.Lit:
		return e.Kind == api.None
	case api.Ref:
		e.Kind = d.single(e.Name, e.At).Kind
	case api.Item:
		e.Kind = d.array(e.Name, e.At).Kind
		d.index(&e.Kids[0])
	case api.Part:
		e.Kind = pinKind(d.instanceOf(e.Name, e.At).outs, e.Part)
		if e.Kind == api.None {
			giveUp(api.ErrName, e.At)
		}
	case api.Un:
		return d.isBareUn(e, want)
	case api.Bin:
		return d.isBareBin(e, want)
	case api.Call:
		e.Kind = d.call(e, want)
	}
	return false
}

func (d *desk) index(e *api.Expr) {
	if !counts(d.look(e, api.None)) {
		giveUp(api.ErrKind, e.At)
	}
}

// counts: is it a kind that arrays and FORs are counted by?
func counts(k api.Kind) bool {
	return k == api.Int || k == api.Dint
}

func (d *desk) isBareUn(e *api.Expr, want api.Kind) bool {
	kid := &e.Kids[0]
	if d.isBare(kid, want) {
		if e.Op == api.Neg {
			return true
		}
		settle(kid, want)
	}
	e.Kind = had(e, e.Op, kid.Kind)
	return false
}

func (d *desk) isBareBin(e *api.Expr, want api.Kind) bool {
	if isCompare(e.Op) {
		want = api.None
	}
	first := d.early(e.Kids, want)
	if first == api.None {
		if isSum(e.Op) {
			return true
		}
		first = want
	}
	e.Kind = had(e, e.Op, late(e, e.Kids, first))
	return false
}

func isCompare(op api.Op) bool {
	return op >= api.Eq && op <= api.Ge
}

// isSum: is it an operation that leaves bare what is bare?
func isSum(op api.Op) bool {
	return op >= api.Add && op <= api.Mod
}

// had: what comes of an operation; the kind has to have it.
func had(e *api.Expr, op api.Op, k api.Kind) api.Kind {
	result := cell.Result(op, k)
	if result == api.None {
		giveUp(api.ErrKind, e.At)
	}
	return result
}

// early looks at those of several expressions that are not bare, and tells the kind of the first one; None: all are bare.
func (d *desk) early(kids []api.Expr, want api.Kind) api.Kind {
	first := api.None
	for i := range kids {
		if !d.isBare(&kids[i], want) && first == api.None {
			first = kids[i].Kind
			want = first
		}
	}
	return first
}

// late looks at those that early left alone, and tells the kind that all of them have to have.
func late(e *api.Expr, kids []api.Expr, k api.Kind) api.Kind {
	if k == api.None {
		k = api.Dint
	}
	for i := range kids {
		if kids[i].Kind == api.None {
			settle(&kids[i], k)
		}
	}
	for i := range kids {
		if kids[i].Kind != k {
			giveUp(api.ErrKind, e.At)
		}
	}
	return k
}

// settle gives a bare expression, and all its parts, the kind that it stands for.
func settle(e *api.Expr, want api.Kind) {
	if want == api.None {
		want = api.Dint
	}
	if e.Form == api.Lit {
		e.Kind = number(e, want)
		return
	}
	for i := range e.Kids {
		settle(&e.Kids[i], want)
	}
	e.Kind = had(e, e.Op, want)
}

func number(e *api.Expr, want api.Kind) api.Kind {
	if want == api.Bool || want == api.Time {
		giveUp(api.ErrKind, e.At)
	}
	if !cell.Fits(want, e.N) {
		giveUp(api.ErrRange, e.At)
	}
	return want
}

func (d *desk) call(e *api.Expr, want api.Kind) api.Kind {
	f := d.names[e.Name]
	if f.kind != api.Function {
		giveUp(api.ErrName, e.At)
	}
	if len(e.Kids) != len(f.ins) {
		giveUp(api.ErrCall, e.At)
	}
	n := 0
	for n < len(f.ins) && f.ins[n].Kind != api.None {
		d.wants(&e.Kids[n], f.ins[n].Kind)
		n++
	}
	if n == len(f.ins) {
		return f.result
	}
	return d.alike(e, f, e.Kids[n:], want)
}

// alike: the kind of a built-in function whose arguments (these) must be alike.
func (d *desk) alike(e *api.Expr, f face, args []api.Expr, want api.Kind) api.Kind {
	first := d.early(args, want)
	if first == api.None {
		first = want
	}
	k := late(e, args, first)
	for _, op := range f.ops {
		had(e, op, k)
	}
	return k
}
