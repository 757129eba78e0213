package check

import (
	"plantwright/api"
	"plantwright/blocks"
)

// face is what is seen of a unit by its name. Of a built-in function an input may have no kind of its own: those inputs stand last, must be alike, and what comes out is of their kind, which has to have all of ops.
type face struct {
	kind   api.UnitKind
	ins    []api.Pin
	outs   []api.Pin
	result api.Kind
	ops    []api.Op
}

// kindWords: a conversion has two of them in its name.
var kindWords = [...]string{api.Bool: "bool", api.Int: "int", api.Dint: "dint", api.Word: "word", api.Time: "time"}

func builtins() map[string]face {
	fs := map[string]face{
		"abs":   builtin(api.None, api.None).with(api.Abs),
		"min":   builtin(api.None, api.None, api.None).with(api.Min),
		"max":   builtin(api.None, api.None, api.None).with(api.Max),
		"limit": builtin(api.None, api.None, api.None, api.None).with(api.Max, api.Min),
		"sel":   builtin(api.None, api.Bool, api.None, api.None),
	}
	for _, name := range [...]string{"shl", "shr", "rol", "ror"} {
		fs[name] = builtin(api.Word, api.Word, api.Int)
	}
	for from := api.Bool; from <= api.Time; from++ {
		for to := api.Bool; to <= api.Time; to++ {
			if from != to {
				fs[kindWords[from]+"_to_"+kindWords[to]] = builtin(to, from)
			}
		}
	}
	return fs
}

func builtin(result api.Kind, ins ...api.Kind) face {
	f := face{kind: api.Function, result: result}
	for _, k := range ins {
		f.ins = append(f.ins, api.Pin{Kind: k})
	}
	return f
}

func (f face) with(ops ...api.Op) face {
	f.ops = ops
	return f
}

func faceOf(u api.Unit) face {
	return face{kind: u.Kind, ins: pins(u, api.Input), outs: pins(u, api.Output), result: u.Result}
}

func pins(u api.Unit, role api.Role) []api.Pin {
	var l []api.Pin
	for _, v := range u.Vars {
		if v.Role == role {
			l = append(l, api.Pin{Name: v.Name, Kind: v.Kind})
		}
	}
	return l
}

// isTaken: has a unit ahead, a standard block or a built-in function this name?
func (b *book) isTaken(name string) bool {
	_, known := b.names[name]
	_, standard := blocks.Shape(name)
	return known || standard
}

// block: what a block has that is a standard one, or stands ahead.
func (b *book) block(name string) (face, bool) {
	if s, ok := blocks.Shape(name); ok {
		return face{kind: api.Block, ins: s.Ins, outs: s.Outs}, true
	}
	f := b.names[name]
	return f, f.kind == api.Block
}

// pinKind: the kind of the pin of this name; None: there is no such pin.
func pinKind(l []api.Pin, name string) api.Kind {
	for _, p := range l {
		if p.Name == name {
			return p.Kind
		}
	}
	return api.None
}
