package code_test

import (
	"fmt"
	"math/big"
	"reflect"
	"testing"

	"plantwright/api"
	"plantwright/blocks"
	"plantwright/cell"
	"plantwright/code"
)

// modelVerify: what the chapter says of code that may be, rule by rule.
func modelVerify(c api.Code) ([]int, api.Fault) {
	if len(c.Procs) > 16 {
		return nil, errCode
	}
	var bounds []int
	for i, p := range c.Procs {
		if !modelMay(c, i, p) {
			return nil, api.Fault{Code: api.ErrCode, Unit: i}
		}
		b := modelBound(bounds, p)
		if b.Cmp(big.NewInt(1000000000)) > 0 {
			return nil, api.Fault{Code: api.ErrSlow, Unit: i}
		}
		bounds = append(bounds, int(b.Int64()))
	}
	return bounds, api.Fault{}
}

func modelMay(c api.Code, unit int, p api.Proc) bool {
	if p.Kind < 1 || p.Kind > 3 || len(p.First) > 20000 || len(p.Text) > 100000 {
		return false
	}
	for i, x := range p.Text {
		if !modelInstr(c, unit, i, x) {
			return false
		}
	}
	return modelLoops(p) && modelStack(p)
}

func standardWords(number int) int {
	names := []string{"ton", "tof", "tp", "ctu", "ctd", "ctud", "r_trig", "f_trig", "sr", "rs", "ramp", "hyst"}
	s, _ := blocks.Shape(names[number-1])
	return len(s.Ins) + len(s.Outs) + len(s.State)
}

func modelInstr(c api.Code, unit, i int, x api.Instr) bool {
	p := c.Procs[unit]
	if x.Do < 1 || x.Do > 18 {
		return false
	}
	abc := []int{x.A, x.B, x.C}
	for f := doFields[x.Do]; f < 3; f++ {
		if abc[f] != 0 {
			return false
		}
	}
	size := big.NewInt(int64(len(p.First)))
	words := func(at, n int) bool {
		end := new(big.Int).Add(big.NewInt(int64(at)), big.NewInt(int64(n)))
		return at >= 0 && end.Cmp(size) <= 0
	}
	switch doNames[x.Do] {
	case "Load", "Store":
		return words(x.A, 1)
	case "LoadAt", "StoreAt":
		return x.B >= 1 && words(x.A, x.B) && x.C >= -4294967295 && x.C <= 4294967295
	case "Fill":
		return x.B >= 1 && words(x.A, x.B)
	case "Work":
		return cell.Result(api.Op(x.A), api.Kind(x.B)) != api.None
	case "Turn":
		return x.A >= 1 && x.A <= 5 && x.B >= 1 && x.B <= 5 && x.A != x.B
	case "Jump", "Fall":
		return x.A > i && x.A <= len(p.Text)
	case "Enter":
		return x.A >= 0 && x.A < 40 && x.B >= 1 && x.B <= 10000
	case "Run":
		return x.A >= 0 && x.A < unit && c.Procs[x.A].Kind != api.Program && words(x.B, len(c.Procs[x.A].First))
	case "Std":
		return x.A >= 1 && x.A <= 12 && words(x.B, standardWords(x.A))
	}
	return true
}

// lap is a loop: from where to where, of which counter, how often.
type lap struct{ from, to, counter, times int }

func (l lap) has(i int) bool {
	return l.from <= i && i <= l.to
}

// laps: each Enter with each Round that goes there.
func laps(p api.Proc) []lap {
	var l []lap
	for e, x := range p.Text {
		for r, y := range p.Text {
			if x.Do == api.Enter && y.Do == api.Round && y.B == e+1 {
				l = append(l, lap{e + 1, r, x.A, x.B})
			}
		}
	}
	return l
}

func modelLoops(p api.Proc) bool {
	enters, rounds := 0, 0
	for r, x := range p.Text {
		if x.Do == api.Enter {
			enters++
		}
		if x.Do == api.Round {
			rounds++
			if x.B > r || x.B < 1 || p.Text[x.B-1].Do != api.Enter || p.Text[x.B-1].A != x.A {
				return false
			}
		}
	}
	l := laps(p)
	if len(l) != enters || len(l) != rounds {
		return false
	}
	for i, a := range l {
		for _, b := range l[:i] {
			if a.from == b.from {
				return false
			}
			apart := a.to < b.from || b.to < a.from
			within := a.has(b.from) && a.has(b.to) || b.has(a.from) && b.has(a.to)
			if !apart && (!within || a.counter == b.counter) {
				return false
			}
		}
		for j, x := range p.Text {
			if (x.Do == api.Jump || x.Do == api.Fall) && a.has(x.A) && !a.has(j) {
				return false
			}
		}
	}
	return true
}

// modelStack goes every way with every height of the stack, till there is nothing new.
func modelStack(p api.Proc) bool {
	type state struct{ at, height int }
	seen := map[state]bool{}
	heights := map[int]int{}
	todo := []state{{0, 0}}
	for len(todo) > 0 {
		s := todo[len(todo)-1]
		todo = todo[:len(todo)-1]
		if seen[s] {
			continue
		}
		seen[s] = true
		if h, ok := heights[s.at]; ok && h != s.height || s.height > 1000 {
			return false
		}
		heights[s.at] = s.height
		if s.at == len(p.Text) {
			if s.height != 0 {
				return false
			}
			continue
		}
		x := p.Text[s.at]
		takes := []int{0, 0, 0, 1, 1, 2, 2, 1, 3, 1, 1, 0, 1, 0, 0, 0, 0, 0, 0}[x.Do]
		gives := []int{0, 1, 1, 0, 1, 0, 1, 1, 1, 2, 0, 0, 0, 0, 0, 0, 0, 0, 0}[x.Do]
		if x.Do == api.Work && x.A >= int(api.Not) {
			takes = 1
		}
		if s.height < takes {
			return false
		}
		h := s.height - takes + gives
		if x.Do == api.Jump || x.Do == api.Fall {
			todo = append(todo, state{x.A, h})
		}
		if x.Do == api.Round {
			todo = append(todo, state{x.B, h})
		}
		if x.Do != api.Jump {
			todo = append(todo, state{s.at + 1, h})
		}
	}
	return true
}

func modelBound(bounds []int, p api.Proc) *big.Int {
	sum := new(big.Int)
	l := laps(p)
	for i, x := range p.Text {
		steps := big.NewInt(1)
		if x.Do == api.Fill {
			steps.SetInt64(int64(x.B))
		}
		if x.Do == api.Run {
			steps.SetInt64(int64(bounds[x.A]) + 1)
		}
		for _, a := range l {
			if a.has(i) {
				steps.Mul(steps, big.NewInt(int64(a.times)))
			}
		}
		sum.Add(sum, steps)
	}
	return sum
}

// modelRun: the machine, by the chapter's table.
func modelRun(c api.Code, unit int, frame []int, now int) (steps, faults int) {
	counters := map[int]int{}
	var stack []int
	top := func() int {
		n := stack[len(stack)-1]
		stack = stack[:len(stack)-1]
		return n
	}
	text := c.Procs[unit].Text
	for at := 0; at < len(text); at++ {
		x := text[at]
		steps++
		switch doNames[x.Do] {
		case "Push":
			stack = append(stack, x.A)
		case "Load":
			stack = append(stack, frame[x.A])
		case "Store":
			frame[x.A] = top()
		case "LoadAt":
			n := 0
			if i := top(); x.C <= i && i < x.C+x.B {
				n = frame[x.A+i-x.C]
			} else {
				faults++
			}
			stack = append(stack, n)
		case "StoreAt":
			n := top()
			if i := top(); x.C <= i && i < x.C+x.B {
				frame[x.A+i-x.C] = n
			} else {
				faults++
			}
		case "Work":
			b := top()
			a := b
			if x.A < int(api.Not) {
				a = top()
			}
			n, nought := cell.Do(api.Op(x.A), api.Kind(x.B), a, b)
			if nought {
				faults++
			}
			stack = append(stack, n)
		case "Turn":
			stack = append(stack, cell.Convert(api.Kind(x.A), api.Kind(x.B), top()))
		case "Pick":
			b, a := top(), top()
			if top() != 0 {
				stack = append(stack, b)
			} else {
				stack = append(stack, a)
			}
		case "Dup":
			n := top()
			stack = append(stack, n, n)
		case "Drop":
			top()
		case "Jump":
			at = x.A - 1
		case "Fall":
			if top() == 0 {
				at = x.A - 1
			}
		case "Enter":
			counters[x.A] = x.B
		case "Round":
			if counters[x.A]--; counters[x.A] > 0 {
				at = x.B - 1
			}
		case "Late":
			faults++
		case "Fill":
			steps += x.B - 1
			for i := range x.B {
				frame[x.A+i] = x.C
			}
		case "Run":
			s, f := modelRun(c, x.A, frame[x.B:x.B+len(c.Procs[x.A].First)], now)
			steps, faults = steps+s, faults+f
		case "Std":
			modelStep(x.A, frame[x.B:], now)
		}
	}
	return steps, faults
}

func modelStep(number int, words []int, now int) {
	name := []string{"ton", "tof", "tp", "ctu", "ctd", "ctud", "r_trig", "f_trig", "sr", "rs", "ramp", "hyst"}[number-1]
	s, _ := blocks.Shape(name)
	i, o := len(s.Ins), len(s.Outs)
	state, outs := blocks.Step(name, words[i+o:i+o+len(s.State)], words[:i], now)
	for j := range outs {
		words[i+j] = outs[j]
	}
	for j := range state {
		words[i+o+j] = state[j]
	}
}

// tally: how often code passed, and how often it was told what.
type tally map[api.Errno]int

// alike: does Verify tell of code what the model tells, and does what passes run so, on frames of any words?
func (n tally) alike(t *testing.T, d *die, c api.Code) bool {
	t.Helper()
	got, f := code.Verify(c)
	want, wf := modelVerify(c)
	n[f.Code]++
	if f != wf || len(got) != len(want) || len(got) > 0 && !reflect.DeepEqual(got, want) {
		t.Errorf("%v, %v, not %v, %v", got, f, want, wf)
		return false
	}
	if f.Code != api.OK {
		return code.Run(c, 0, nil, 0).Code == api.ErrCode
	}
	for at, p := range c.Procs {
		if got[at] > 100000 {
			continue
		}
		frame := make([]int, len(p.First))
		for i := range frame {
			frame[i] = pick(d, 0, 1, -1, 2, 7, 65536, -1<<63, 1<<63-1, 4294967295, d.n(100))
		}
		now := pick(d, 0, 5, 1<<40, -1)
		r := code.Run(c, at, frame, now)
		steps, faults := modelRun(c, at, frame, now)
		if r.Code != api.OK || r.Steps != steps || r.Faults != faults || len(frame) > 0 && !reflect.DeepEqual(r.Frame, frame) || r.Steps > got[at] {
			t.Errorf("unit %d: %v, not %v, %d steps, %d faults; bound %d", at, r, frame, steps, faults, got[at])
			return false
		}
	}
	return true
}

// spoil changes one thing.
func spoil(d *die, c api.Code) {
	p := &c.Procs[d.n(len(c.Procs))]
	if len(p.Text) == 0 {
		p.Text = append(p.Text, api.Instr{Do: api.Late})
	}
	at := d.n(len(p.Text))
	x := &p.Text[at]
	switch d.n(10) {
	case 0:
		x.A += d.n(5) - 2
	case 1:
		x.B += d.n(5) - 2
	case 2:
		x.C += d.n(3) - 1
	case 3:
		x.Do = api.Do(d.n(20))
	case 4:
		p.Text = p.Text[:at]
	case 5:
		p.Kind = api.UnitKind(d.n(5))
	case 6:
		p.First = p.First[:d.n(len(p.First)+1)]
	case 7:
		*x = p.Text[d.n(len(p.Text))]
	case 8:
		*x = pick(d, asm("Late, Jump 1, Enter 0 2, Enter 1 10000, Round 0 1, Push 1, Drop, Dup, Fill 0 1 9, Run 0 0")...)
		if x.Do == api.Jump {
			x.A = at + 1 + d.n(5)
		}
	default:
		x.A = pick(d, 0, 1, at+1, at, len(p.Text), -1, 1<<62)
	}
}

// Code of units that were drawn, with one thing changed or more, is told apart as the model does.
func TestSpoiltCode(t *testing.T) {
	n := tally{}
	for seed := range 1500 {
		us := drawUnits(seed)
		if c, f := code.Compile(us, globals); f.Code != api.OK || size(c) > 400 {
			continue
		}
		d := die(seed)
		for range 12 {
			c, _ := code.Compile(us, globals)
			for range d.n(3) {
				spoil(&d, c)
			}
			if !n.alike(t, &d, c) {
				for _, p := range c.Procs {
					t.Log(p.Kind, len(p.First), listing(p.Text))
				}
				t.Fatalf("seed %d", seed)
			}
		}
	}
	if n[api.OK] < 2000 || n[api.ErrCode] < 2000 {
		t.Error(n)
	}
}

func size(c api.Code) int {
	n := 0
	for _, p := range c.Procs {
		n += len(p.Text)
	}
	return n
}

// drawText: short texts, in which all that loops, jumps and the stack have to do with one another comes up.
func drawText(d *die, words, unit int) []api.Instr {
	var l []api.Instr
	n := 1 + d.n(9)
	for i := range n {
		x := api.Instr{Do: pick(d, api.Push, api.Store, api.Load, api.Dup, api.Drop, api.Jump, api.Fall, api.Enter, api.Enter, api.Round, api.Round, api.Late, api.Fill, api.Run, api.Pick)}
		switch x.Do {
		case api.Push, api.Store, api.Load:
			x.A = d.n(words)
		case api.Jump, api.Fall:
			x.A = i + 1 + d.n(n-i)
		case api.Enter:
			x.A, x.B = d.n(2), 1+d.n(3)
		case api.Round:
			var open []int
			for j := range l {
				if l[j].Do == api.Enter {
					open = append(open, j)
				}
			}
			if len(open) == 0 {
				x.Do = api.Late
				break
			}
			j := open[d.n(len(open))]
			x.A, x.B = l[j].A, j+1
		case api.Fill:
			x.A, x.B, x.C = d.n(2), 1+d.n(words-1), 7
		case api.Run:
			x.A, x.B = d.n(unit+1), d.n(3)
		}
		l = append(l, x)
	}
	return l
}

func TestDrawnCode(t *testing.T) {
	n := tally{}
	d := die(3)
	for round := range 200000 {
		var c api.Code
		for unit := range 1 + d.n(2) {
			words := 2 + d.n(3)
			c.Procs = append(c.Procs, api.Proc{Kind: pick(&d, api.Function, api.Block, api.Program), First: make([]int, words), Text: drawText(&d, words, unit)})
		}
		if !n.alike(t, &d, c) {
			t.Fatal(round, fmt.Sprint(c))
		}
	}
	if n[api.OK] < 2000 || n[api.ErrCode] < 50000 {
		t.Error(n)
	}
}
