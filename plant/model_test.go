package plant_test

import (
	"fmt"
	"math/big"
	"strings"
	"testing"

	"plantwright/api"
	"plantwright/bus"
	"plantwright/change"
	"plantwright/code"
	"plantwright/plant"
	"plantwright/safety"
)

// model is a plant as the chapter tells it, by names and numbers, not by lists; what other chapters promise is taken from their packages.
type model struct {
	plan   api.Plan
	built  api.Built
	kind   map[string]api.Kind
	dir    map[string]api.Dir
	values map[string]int
	frames map[string][]int
	links  map[int]api.Link
	seqs   map[int]int
	trip   api.Trip
	now    int
	faults int
}

// modulo: n modulo a power of two, and below 0 if its kind has a sign.
func modulo(kind api.Kind, n int) int {
	bits := map[api.Kind]uint{api.Bool: 1, api.Int: 16, api.Word: 16, api.Dint: 32, api.Time: 32}[kind]
	width := new(big.Int).Lsh(big.NewInt(1), bits)
	r := int(new(big.Int).Mod(big.NewInt(int64(n)), width).Int64())
	if (kind == api.Int || kind == api.Dint) && r >= 1<<(bits-1) {
		r -= 1 << bits
	}
	return r
}

// onBus: P14.2.
func onBus(kind api.Kind, n int) []int {
	switch kind {
	case api.Bool, api.Word:
		return []int{n}
	case api.Int:
		return []int{(n + 65536) % 65536}
	case api.Time:
		return []int{n % 65536, n / 65536}
	}
	n = (n + 4294967296) % 4294967296
	return []int{n % 65536, n / 65536}
}

func newModel(p api.Plan) *model {
	m := &model{plan: p, kind: map[string]api.Kind{}, dir: map[string]api.Dir{}, values: map[string]int{}, frames: map[string][]int{}, links: map[int]api.Link{}, seqs: map[int]int{}}
	m.built, _ = plant.Build(p)
	for _, g := range p.Globals {
		m.kind[g.Name], m.dir[g.Name] = g.Kind, g.Dir
		m.values[g.Name] = 0
	}
	for _, proc := range m.built.Code.Procs {
		if proc.Kind == api.Program {
			m.frames[proc.Name] = append([]int{}, proc.First...)
		}
	}
	for _, s := range p.Field {
		var safe []int
		for i, name := range s.Tells {
			safe = append(safe, onBus(m.kind[name], s.Safe[i])...)
			m.values[name] = s.Safe[i]
		}
		m.links[s.Number], _ = bus.Start(s.Number, s.Watch, safe)
		m.seqs[s.Number] = 0
	}
	m.trip, _ = safety.Start(p.Guard)
	return m
}

// state: the model as a state.
func (m *model) state() api.State {
	s := api.State{Now: m.now, Faults: m.faults, Trip: m.trip}
	for _, proc := range m.built.Code.Procs {
		s.Frames = append(s.Frames, m.frames[proc.Name])
	}
	for _, g := range m.plan.Globals {
		s.Values = append(s.Values, m.values[g.Name])
	}
	for _, st := range m.plan.Field {
		s.Links = append(s.Links, m.links[st.Number])
		s.Seqs = append(s.Seqs, m.seqs[st.Number])
	}
	return s
}

// tick: P14.4.
func (m *model) tick(came [][]byte, key bool) [][]byte {
	took := map[int]int{}
	for _, b := range came {
		station, _, _, e := bus.Open(b)
		link, known := m.links[station]
		if e != api.OK || !known {
			continue
		}
		if link, e = bus.Take(link, b); e == api.OK {
			m.links[station] = link
			took[station]++
		}
	}
	fresh := map[string]bool{}
	for _, s := range m.plan.Field {
		if took[s.Number] == 0 {
			m.links[s.Number], _ = bus.Tick(m.links[s.Number])
		}
		at := 0
		for _, name := range s.Tells {
			n := m.links[s.Number].Words[at]
			at++
			if k := m.kind[name]; k == api.Dint || k == api.Time {
				n += 65536 * m.links[s.Number].Words[at]
				at++
			}
			m.values[name] = modulo(m.kind[name], n)
			fresh[name] = m.links[s.Number].Fresh
		}
	}
	var told []int
	for _, name := range m.plan.Sensors {
		n := m.values[name]
		if !fresh[name] {
			n = 2
		}
		told = append(told, n)
	}
	m.trip, _ = safety.Step(m.plan.Guard, m.trip, told, key)
	for i, t := range m.built.Tasks {
		for at := t.Offset; at <= m.now*1000; at += t.Period {
			if at == m.now*1000 {
				m.run(m.built.Places[i])
			}
		}
	}
	return m.tell()
}

func (m *model) run(unit int) {
	proc := m.built.Code.Procs[unit]
	frame := append([]int{}, m.frames[proc.Name]...)
	for _, s := range proc.Slots {
		if n, ok := m.values[s.Path]; ok && s.Role == api.Extern {
			frame[s.At] = n
		}
	}
	ran := code.Run(m.built.Code, unit, frame, m.now)
	for _, s := range proc.Slots {
		if d := m.dir[s.Path]; s.Role == api.Extern && (d == api.ToField || d == api.Memory) {
			m.values[s.Path] = modulo(m.kind[s.Path], ran.Frame[s.At])
		}
	}
	m.frames[proc.Name] = ran.Frame
	m.faults += ran.Faults
	if m.faults > 4294967295 {
		m.faults = 4294967295
	}
}

func (m *model) tell() [][]byte {
	var out [][]byte
	for _, s := range m.plan.Field {
		var words []int
		for _, name := range s.Takes {
			n := m.values[name]
			if m.trip.Down {
				n = 0
			}
			words = append(words, onBus(m.kind[name], n)...)
		}
		if len(words) > 0 {
			b, _ := bus.Frame(s.Number, m.seqs[s.Number], words)
			out = append(out, b)
			m.seqs[s.Number] = (m.seqs[s.Number] + 1) % 256
		}
	}
	m.now++
	return out
}

// kept: P14.5: with each word of what is kept, and its kind, do is called; what that answers is the word then.
func (m *model) kept(do func(kind api.Kind, word int) int) {
	for _, proc := range m.built.Code.Procs {
		if proc.Kind != api.Program {
			continue
		}
		for _, s := range proc.Slots {
			for i := 0; i < 1 || i < s.Len; i++ {
				if s.Keep {
					m.frames[proc.Name][s.At+i] = do(s.Kind, m.frames[proc.Name][s.At+i])
				}
			}
		}
	}
}

func (m *model) save() []int {
	var words []int
	m.kept(func(_ api.Kind, word int) int {
		words = append(words, modulo(api.Time, word))
		return word
	})
	return words
}

func (m *model) restore(words []int) {
	m.kept(func(kind api.Kind, _ int) int {
		n := words[0]
		words = words[1:]
		return modulo(kind, n)
	})
}

// replace: P14.6.
func (m *model) replace(p api.Plan) *model {
	now := newModel(p)
	now.now, now.faults = m.now, m.faults
	for _, proc := range now.built.Code.Procs {
		for _, old := range m.built.Code.Procs {
			if proc.Kind == api.Program && old.Kind == api.Program && old.Name == proc.Name {
				c, _ := change.Carry(old, m.frames[old.Name], proc)
				now.frames[proc.Name] = c.Frame
			}
		}
	}
	for name := range now.values {
		if m.kind[name] == now.kind[name] && m.dir[name] == now.dir[name] {
			now.values[name] = m.values[name]
		}
	}
	for _, s := range now.plan.Field {
		for _, old := range m.plan.Field {
			if text(s.Number, s.Watch, s.Safe, s.Tells, now.links[s.Number].Safe) == text(old.Number, old.Watch, old.Safe, old.Tells, m.links[old.Number].Safe) {
				now.links[s.Number], now.seqs[s.Number] = m.links[s.Number], m.seqs[s.Number]
			}
		}
	}
	if text(now.plan.Guard, now.plan.Sensors) == text(m.plan.Guard, m.plan.Sensors) {
		now.trip = m.trip
	}
	return now
}

// drawnPlan: a plan that may be: the large one, of which much is other.
func drawnPlan(d *die) api.Plan {
	for {
		p := large()
		for range d.n(4) {
			alterPlan(d, &p)
		}
		if faultOf(p).Code == api.OK {
			return p
		}
	}
}

func alterPlan(d *die, p *api.Plan) {
	shuffle := func(n int, swap func(i, k int)) {
		for i := n - 1; i > 0; i-- {
			swap(i, d.n(i+1))
		}
	}
	station := &p.Field[d.n(len(p.Field))]
	switch d.n(13) {
	case 0:
		shuffle(len(p.Field), func(i, k int) { p.Field[i], p.Field[k] = p.Field[k], p.Field[i] })
	case 1:
		shuffle(len(p.Globals), func(i, k int) { p.Globals[i], p.Globals[k] = p.Globals[k], p.Globals[i] })
	case 2:
		station.Watch = 1 + d.n(4)
	case 3:
		shuffle(len(station.Takes), func(i, k int) { station.Takes[i], station.Takes[k] = station.Takes[k], station.Takes[i] })
	case 4:
		if len(station.Safe) > 0 {
			station.Safe[d.n(len(station.Safe))] = d.n(2)
		}
	case 5:
		p.Guard.Delay = d.n(3)
	case 6:
		p.Guard.Votes[d.n(2)].Need = 1
	case 7:
		p.Sensors[d.n(3)] = pick(d, "go", "door", "stop")
	case 8:
		t := &p.Tasks[d.n(len(p.Tasks))]
		t.Period, t.Offset, t.Deadline = 1000*(1+d.n(3)), 1000*d.n(4), 500+d.n(500)
	case 9:
		p.Globals[d.n(len(p.Globals))].Kind = api.Kind(1 + d.n(5))
	case 10:
		p.Text = strings.ReplaceAll(p.Text, "i : INT", pick(d, "i : DINT", "added : TIME; i : INT", "i, other : INT"))
	case 11:
		p.Ladders = append(p.Ladders, "LADDER new VAR_EXTERNAL stop : BOOL; END_VAR VAR RETAIN k : BOOL; END_VAR RUNG [stop] => +k; END_LADDER")
		p.Tasks[d.n(len(p.Tasks))].Name = "new"
	case 12:
		p.Field = p.Field[:len(p.Field)-d.n(2)]
	}
}

// drawnFrames: what comes in a tick: of the plan's stations and of others, in order and not, some spoilt.
func drawnFrames(d *die, m *model) [][]byte {
	var came [][]byte
	for range d.n(5) {
		if d.n(12) == 0 {
			came = append(came, pick(d, nil, []byte{}, []byte{4, 1}, frame(100, 3, 1)))
			continue
		}
		s := m.plan.Field[d.n(len(m.plan.Field))]
		words := make([]int, len(m.links[s.Number].Safe))
		for i := range words {
			words[i] = pick(d, 0, 1, 0, 1, d.n(65536))
		}
		b := frame(s.Number, (m.links[s.Number].Seq+pick(d, 1, 1, 2, 100, 0, 200))%256, words...)
		if d.n(10) == 0 {
			b[d.n(len(b))] ^= 1 << d.n(8)
		}
		came = append(came, b)
	}
	return came
}

// Drawn plans go on for a while, are saved, restored and replaced, as the model is.
func TestModel(t *testing.T) {
	d := die(5)
	downs, ups, freshes := 0, 0, 0
	for round := range 80 {
		p := drawnPlan(&d)
		m := newModel(p)
		s := begun(t, p)
		alike(t, "Begin", s, m.state())
		for i := range 40 {
			came, key := drawnFrames(&d, m), d.n(3) == 0
			was := s.Trip.Down
			x := ticked(t, p, s, key, came...)
			frames := m.tick(came, key)
			alike(t, fmt.Sprint("Tick ", round, " ", i), x, api.Ticked{State: m.state(), Frames: frames})
			s = x.State
			switch {
			case !was && s.Trip.Down:
				downs++
			case was && !s.Trip.Down:
				ups++
			}
			if s.Links[0].Fresh {
				freshes++
			}
			switch d.n(12) {
			case 0:
				words := saved(t, p, s)
				alike(t, "Save", words, m.save())
				for k := range words {
					words[k] = pick(&d, words[k], d.n(1<<31), 4294967295)
				}
				s = restored(t, p, s, words...)
				m.restore(words)
				alike(t, "Restore", s, m.state())
			case 1:
				now := drawnPlan(&d)
				s = replaced(t, p, s, now)
				m = m.replace(now)
				p = now
				alike(t, "Replace", s, m.state())
			case 2:
				s.Now, m.now = s.Now+1000, m.now+1000
			}
		}
	}
	if downs < 50 || ups < 50 || freshes < 500 {
		t.Error("too little happened:", downs, ups, freshes)
	}
}
