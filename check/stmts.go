package check

import (
	"cmp"
	"slices"
	"sort"

	"plantwright/api"
	"plantwright/cell"
)

func (d *desk) list(l []api.Stmt) {
	for i := range l {
		d.stmt(&l[i])
	}
}

func (d *desk) stmt(s *api.Stmt) {
	switch s.Verb {
	case api.Set:
		d.set(s)
	case api.Invoke:
		d.invoke(s)
	case api.If:
		for i := range s.Arms {
			d.wants(&s.Arms[i].E, api.Bool)
			d.list(s.Arms[i].Body)
		}
		d.list(s.Else)
	case api.Case:
		d.choose(s)
	case api.For:
		d.count(s)
	case api.While:
		d.wants(&s.E[0], api.Bool)
		d.loop(s.Body)
	case api.Repeat:
		d.loop(s.Body)
		d.wants(&s.E[0], api.Bool)
	case api.Exit, api.Next:
		if d.loops == 0 {
			giveUp(api.ErrLoop, s.At)
		}
	}
}

func (d *desk) loop(l []api.Stmt) {
	d.loops++
	d.list(l)
	d.loops--
}

func (d *desk) set(s *api.Stmt) {
	v := d.target(s)
	d.write(v, s.At)
	if s.Item {
		d.index(&s.E[1])
	}
	d.wants(&s.E[0], v.Kind)
}

func (d *desk) target(s *api.Stmt) api.Var {
	if s.Item {
		return d.array(s.Name, s.At)
	}
	return d.single(s.Name, s.At)
}

func (d *desk) write(v api.Var, at int) {
	if v.Role == api.Input || d.isCount(v.Name) {
		giveUp(api.ErrWrite, at)
	}
	if v.Role == api.Extern {
		d.writeGlobal(d.globals[v.Name], at)
	}
}

func (d *desk) writeGlobal(g api.Global, at int) {
	if g.Dir == api.FromField || g.Dir == api.Setting {
		giveUp(api.ErrWrite, at)
	}
	if by, ok := d.writers[g.Name]; ok && by != d.place {
		giveUp(api.ErrWrite, at)
	}
	d.writers[g.Name] = d.place
}

// isCount: is it the variable of a FOR around?
func (d *desk) isCount(name string) bool {
	return slices.Contains(d.counts, name)
}

func (d *desk) invoke(s *api.Stmt) {
	f := d.instanceOf(s.Name, s.At)
	for i := range s.Args {
		a := &s.Args[i]
		side := f.ins
		if a.Out {
			side = f.outs
		}
		k := pinKind(side, a.Name)
		if k == api.None {
			giveUp(api.ErrName, a.At)
		}
		if isGiven(s.Args[:i], a) {
			giveUp(api.ErrTwice, a.At)
		}
		if a.Out {
			d.takes(a, k)
		} else {
			d.wants(&a.E, k)
		}
	}
}

// takes: an argument's variable that takes an output of this kind.
func (d *desk) takes(a *api.Arg, k api.Kind) {
	v := d.single(a.To, a.At)
	d.write(v, a.At)
	if v.Kind != k {
		giveUp(api.ErrKind, a.At)
	}
}

// isGiven: is the same input, or the same output, among these?
func isGiven(ahead []api.Arg, a *api.Arg) bool {
	for i := range ahead {
		if ahead[i].Name == a.Name && ahead[i].Out == a.Out {
			return true
		}
	}
	return false
}

func (d *desk) choose(s *api.Stmt) {
	k := d.look(&s.E[0], api.None)
	if !counts(k) && k != api.Word {
		giveUp(api.ErrKind, s.E[0].At)
	}
	twice := firstTwice(labelsOf(s.Arms))
	n := 0
	for i := range s.Arms {
		for _, l := range s.Arms[i].Labels {
			if !cell.Fits(k, l[0]) || !cell.Fits(k, l[1]) {
				giveUp(api.ErrRange, s.At)
			}
			if n == twice {
				giveUp(api.ErrTwice, s.At)
			}
			n++
		}
		d.list(s.Arms[i].Body)
	}
	d.list(s.Else)
}

func labelsOf(arms []api.Arm) [][2]int {
	var l [][2]int
	for i := range arms {
		l = append(l, arms[i].Labels...)
	}
	return l
}

// firstTwice: which label is the first that has a number in common with one ahead of it (if none has: how many there are)? It is searched by halves, so that many labels need no comparing of each with each.
func firstTwice(labels [][2]int) int {
	return sort.Search(len(labels), func(i int) bool { return !areApart(labels[:i+1]) })
}

func areApart(labels [][2]int) bool {
	l := fresh(labels)
	slices.SortFunc(l, func(a, b [2]int) int { return cmp.Compare(a[0], b[0]) })
	for i := 1; i < len(l); i++ {
		if l[i][0] <= l[i-1][1] {
			return false
		}
	}
	return true
}

func (d *desk) count(s *api.Stmt) {
	v := d.single(s.Name, s.At)
	if !counts(v.Kind) {
		giveUp(api.ErrKind, s.At)
	}
	if v.Role != api.Own || d.isCount(v.Name) {
		giveUp(api.ErrWrite, s.At)
	}
	if !cell.Fits(v.Kind, s.From) || s.To >= s.From && !cell.Fits(v.Kind, s.To) {
		giveUp(api.ErrRange, s.At)
	}
	d.counts = append(d.counts, v.Name)
	d.loop(s.Body)
	d.counts = d.counts[:len(d.counts)-1]
}
