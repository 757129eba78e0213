package code

import (
	"plantwright/api"
	"plantwright/blocks"
)

// library is what is known of the list so far: the code and the bounds of the units ahead; by their names how these and the standard blocks lie in frames.
type library struct {
	procs  []api.Proc
	bounds []int
	moulds map[string]mould
}

// mould is what a frame within another one is cast from, and what it is run by: that instruction's A is the number.
type mould struct {
	first  []int
	slots  []api.Slot
	at     map[string]int
	ins    []int
	do     api.Do
	number int
}

// standards: a standard block's number in code is one more than its place here.
var standards = [...]string{"ton", "tof", "tp", "ctu", "ctd", "ctud", "r_trig", "f_trig", "sr", "rs", "ramp", "hyst"}

// kit is how a standard block's words lie: its inputs up to ins, its outputs up to outs, its state up to words.
type kit struct {
	name  string
	ins   int
	outs  int
	words int
}

func kitOf(number int) kit {
	k := kit{name: standards[number-1]}
	s, _ := blocks.Shape(k.name)
	k.ins = len(s.Ins)
	k.outs = k.ins + len(s.Outs)
	k.words = k.outs + len(s.State)
	return k
}

func newLibrary() *library {
	l := &library{moulds: map[string]mould{}}
	for i, name := range standards {
		l.moulds[name] = standardMould(name, i+1)
	}
	return l
}

func standardMould(name string, number int) mould {
	m := mould{at: map[string]int{}, do: api.Std, number: number}
	add := func(role api.Role, mark string, pins []api.Pin) {
		for _, p := range pins {
			path := mark + p.Name
			m.at[path] = len(m.slots)
			m.slots = append(m.slots, api.Slot{Path: path, Kind: p.Kind, At: len(m.slots), Role: role})
		}
	}
	shape, _ := blocks.Shape(name)
	add(api.Input, "", shape.Ins)
	add(api.Output, "", shape.Outs)
	add(api.Own, "%", shape.State)
	m.first = make([]int, len(m.slots))
	return m
}

// take makes the next unit's code.
func (l *library) take(u api.Unit) api.Errno {
	f := l.layOut(u)
	if f.size > api.MaxFrame {
		return api.ErrSize
	}
	p := api.Proc{Kind: u.Kind, Name: u.Name, First: f.first(), Slots: f.slots(), Text: f.write(u)}
	if len(p.Text) > api.MaxCode {
		return api.ErrSize
	}
	bound, code := lookOver(l.procs, l.bounds, &p)
	if code != api.OK {
		return code
	}
	l.moulds[u.Name] = mould{first: p.First, slots: p.Slots, at: f.at, ins: f.inputs(), do: api.Run, number: len(l.procs)}
	l.procs = append(l.procs, p)
	l.bounds = append(l.bounds, bound)
	return api.OK
}
