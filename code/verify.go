package code

import (
	"plantwright/api"
	"plantwright/cell"
)

// lookOver: the bound of a unit; ahead of it stand units that may be, of these bounds.
func lookOver(ahead []api.Proc, bounds []int, p *api.Proc) (int, api.Errno) {
	o := &overseer{ahead: ahead, bounds: bounds, proc: p}
	if !o.mayBe() {
		return 0, api.ErrCode
	}
	bound := o.bound()
	if bound > api.MaxBound {
		return 0, api.ErrSlow
	}
	return bound, api.OK
}

// overseer looks over one unit. Of each instruction it finds out where the innermost loop begins that it lies in (0: it lies in none), and how often it is done at most.
type overseer struct {
	ahead  []api.Proc
	bounds []int
	proc   *api.Proc
	begins []int
	times  []int
}

func (o *overseer) mayBe() bool {
	p := o.proc
	if p.Kind < api.Program || p.Kind > api.Block || len(p.First) > api.MaxFrame || len(p.Text) > api.MaxCode {
		return false
	}
	for i, x := range p.Text {
		if !o.mayInstr(i, x) {
			return false
		}
	}
	return o.mayLoops() && o.mayJumps() && o.mayStack()
}

func (o *overseer) mayInstr(i int, x api.Instr) bool {
	return usesOnly(x) && o.mayFields(i, x)
}

// usesOnly: are the fields 0 that the instruction does not use?
func usesOnly(x api.Instr) bool {
	switch x.Do {
	case api.LoadAt, api.StoreAt, api.Fill:
		return true
	case api.Work, api.Turn, api.Enter, api.Round, api.Run, api.Std:
		return x.C == 0
	case api.Push, api.Load, api.Store, api.Jump, api.Fall:
		return x.B == 0 && x.C == 0
	case api.Pick, api.Dup, api.Drop, api.Late:
		return x.A == 0 && x.B == 0 && x.C == 0
	}
	return false
}

func (o *overseer) mayFields(i int, x api.Instr) bool {
	switch x.Do {
	case api.Load, api.Store:
		return o.hasWords(x.A, 1)
	case api.LoadAt, api.StoreAt:
		return x.B > 0 && o.hasWords(x.A, x.B) && isWithin(x.C, -api.MaxNumber, api.MaxNumber)
	case api.Fill:
		return x.B > 0 && o.hasWords(x.A, x.B)
	case api.Work:
		return cell.Result(api.Op(x.A), api.Kind(x.B)) != api.None
	case api.Turn:
		return isKind(x.A) && isKind(x.B) && x.A != x.B
	case api.Jump, api.Fall:
		return isWithin(x.A, i+1, len(o.proc.Text))
	case api.Enter:
		return isWithin(x.A, 0, api.MaxLoops-1) && isWithin(x.B, 1, api.MaxTimes)
	case api.Run:
		return o.mayCall(x.A) && o.hasWords(x.B, len(o.ahead[x.A].First))
	case api.Std:
		return isWithin(x.A, 1, len(standards)) && o.hasWords(x.B, kitOf(x.A).words)
	}
	return true
}

func isWithin(n, low, high int) bool {
	return low <= n && n <= high
}

func isKind(n int) bool {
	return isWithin(n, int(api.Bool), int(api.Time))
}

// hasWords: do so many words at a place lie within the frame?
func (o *overseer) hasWords(at, n int) bool {
	size := len(o.proc.First)
	return n <= size && isWithin(at, 0, size-n)
}

// mayCall: does a function or a block of this number stand ahead?
func (o *overseer) mayCall(number int) bool {
	return isWithin(number, 0, len(o.ahead)-1) && o.ahead[number].Kind != api.Program
}

// bound: all steps, each as often as its loops go round. More than MaxBound is one more than that, so that no sum grows too great.
func (o *overseer) bound() int {
	sum := 0
	for i, x := range o.proc.Text {
		steps := 1
		switch x.Do {
		case api.Fill:
			steps = x.B
		case api.Run:
			steps = 1 + o.bounds[x.A]
		}
		sum = capped(sum + capped(steps*o.times[i]))
	}
	return sum
}

func capped(steps int) int {
	return min(steps, api.MaxBound+1)
}
