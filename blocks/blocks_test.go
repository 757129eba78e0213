package blocks_test

import (
	"slices"
	"testing"

	"plantwright/api"
	"plantwright/blocks"
	"plantwright/cell"
)

func TestShape(t *testing.T) {
	all := rows()
	if len(all) != 12 {
		t.Fatal("the table has", len(all), "rows")
	}
	for _, r := range all {
		want := shapeText(api.Shape{Ins: r.ins, Outs: r.outs, State: r.state})
		if s, ok := blocks.Shape(r.name); !ok || shapeText(s) != want {
			t.Errorf("Shape(%q) is %s, %v, not %s", r.name, shapeText(s), ok, want)
		}
	}
}

func TestNoBlock(t *testing.T) {
	for _, name := range noNames {
		s, ok := blocks.Shape(name)
		if ok || len(s.Ins)+len(s.Outs)+len(s.State) > 0 {
			t.Errorf("Shape(%q) is %v, %v", name, s, ok)
		}
		for many := range 6 {
			l := slices.Repeat([]int{1}, many)
			if state, out := blocks.Step(name, l, l, 5); len(state)+len(out) > 0 {
				t.Errorf("Step(%q) is %v, %v", name, state, out)
			}
		}
	}
}

// TestShapeIsNew: who writes to what came out changes no other answer, nor another list of the same one.
func TestShapeIsNew(t *testing.T) {
	spoil := func(l []api.Pin) {
		for i := range l[:cap(l)] {
			l[:cap(l)][i] = api.Pin{Name: "spoilt", Kind: 77}
		}
	}
	for _, r := range rows() {
		s, _ := blocks.Shape(r.name)
		spoil(s.Ins)
		if !slices.Equal(s.Outs, r.outs) || !slices.Equal(s.State, r.state) {
			t.Errorf("%s: the inputs share memory with other lists", r.name)
		}
		spoil(s.Outs)
		if !slices.Equal(s.State, r.state) {
			t.Errorf("%s: the outputs share memory with the state", r.name)
		}
		spoil(s.State)
		if got, _ := blocks.Shape(r.name); shapeText(got) != shapeText(api.Shape{Ins: r.ins, Outs: r.outs, State: r.state}) {
			t.Errorf("%s: an answer that was written to shows in the next one: %v", r.name, got)
		}
		if state, out := blocks.Step(r.name, nil, nil, 0); len(state) != len(r.state) || len(out) != len(r.outs) {
			t.Errorf("%s: %v, %v behind a shape that was written to", r.name, state, out)
		}
	}
}

// TestStepLeavesItsLists: they are neither changed nor kept, and what comes out is shared with nothing.
func TestStepLeavesItsLists(t *testing.T) {
	d := die(11)
	for _, r := range rows() {
		for range 200 {
			stateRoom := append(d.words(r.state, 50), 71, 72, 73)
			inRoom := append(d.words(r.ins, 50), 81, 82, 83)
			stateWas, inWas := slices.Clone(stateRoom), slices.Clone(inRoom)
			given, in := stateRoom[:len(r.state)], inRoom[:len(r.ins)]
			state, out := blocks.Step(r.name, given, in, 60)
			if !slices.Equal(stateRoom, stateWas) || !slices.Equal(inRoom, inWas) {
				t.Fatalf("%s: Step changed what it was given: %v, %v", r.name, stateRoom, inRoom)
			}
			stateWant, outWant := slices.Clone(state), slices.Clone(out)
			clear(state[:cap(state)])
			if !slices.Equal(out, outWant) {
				t.Fatalf("%s: outputs and state share memory", r.name)
			}
			for i := range out[:cap(out)] {
				out[:cap(out)][i] = 99
			}
			if !slices.Equal(stateRoom, stateWas) || !slices.Equal(inRoom, inWas) {
				t.Fatalf("%s: what came out shares memory with what was given", r.name)
			}
			if again, outAgain := blocks.Step(r.name, given, in, 60); !slices.Equal(again, stateWant) || !slices.Equal(outAgain, outWant) {
				t.Fatalf("%s: the same call once more is %v, %v, not %v, %v", r.name, again, outAgain, stateWant, outWant)
			}
		}
	}
}

func TestStepWraps(t *testing.T) {
	for _, x := range []struct {
		name              string
		state, in         []int
		now               int
		wantState, wantIn []int
		wantNow           int
	}{
		{"ton", []int{3, 1<<32 + 5, -2, -1}, []int{-1, 1<<32 + 7}, 1<<32 + 9, []int{1, 5, 0, 1<<32 - 1}, []int{1, 7}, 9},
		{"ton", []int{2, 0, 0, 0}, []int{2, 7}, -1, []int{0, 0, 0, 0}, []int{0, 7}, 1<<32 - 1},
		{"tof", []int{5, -1, 7, 0}, []int{4, -1}, -1 << 32, []int{1, 1<<32 - 1, 1, 0}, []int{0, 1<<32 - 1}, 0},
		{"tp", []int{0, 0, 2, 0}, []int{1, 1 << 32}, 3, []int{0, 0, 0, 0}, []int{1, 0}, 3},
		{"ctu", []int{2, 65536 + 4}, []int{3, 2, 32768}, 0, []int{0, 4}, []int{1, 0, -32768}, 0},
		{"ctd", []int{-1, 32768}, []int{1, 1, -32769}, 0, []int{1, -32768}, []int{1, 1, 32767}, 0},
		{"ctud", []int{2, 3, -65537}, []int{5, 5, 4, 6, 65536}, 0, []int{0, 1, -1}, []int{1, 1, 0, 0, 0}, 0},
		{"r_trig", []int{2}, []int{-1}, 0, []int{0}, []int{1}, 0},
		{"f_trig", []int{-3}, []int{10}, 0, []int{1}, []int{0}, 0},
		{"sr", []int{3}, []int{2, 4}, 0, []int{1}, []int{0, 0}, 0},
		{"rs", []int{2}, []int{2, 3}, 0, []int{0}, []int{0, 1}, 0},
		{"ramp", []int{40000}, []int{65536 + 9, 65535}, 0, []int{-25536}, []int{9, -1}, 0},
		{"hyst", []int{4}, []int{32768, 5, 65535}, 0, []int{0}, []int{-32768, 5, -1}, 0},
	} {
		state, out := blocks.Step(x.name, x.state, x.in, x.now)
		wantState, wantOut := blocks.Step(x.name, x.wantState, x.wantIn, x.wantNow)
		if !slices.Equal(state, wantState) || !slices.Equal(out, wantOut) {
			t.Errorf("Step(%q, %v, %v, %d) is %v, %v; of what these wrap into it is %v, %v", x.name, x.state, x.in, x.now, state, out, wantState, wantOut)
		}
	}
}

func TestStepWrapsAnyNumbers(t *testing.T) {
	d := die(12)
	drawn := func(pins []api.Pin) (raw, clean []int) {
		for _, p := range pins {
			n := d.of(wide)
			raw, clean = append(raw, n), append(clean, cell.Wrap(p.Kind, n))
		}
		return raw, clean
	}
	for _, r := range rows() {
		for range 2000 {
			rawState, cleanState := drawn(r.state)
			rawIn, cleanIn := drawn(r.ins)
			now := d.of(wide)
			state, out := blocks.Step(r.name, rawState, rawIn, now)
			wantState, wantOut := blocks.Step(r.name, cleanState, cleanIn, cell.Wrap(api.Time, now))
			if !slices.Equal(state, wantState) || !slices.Equal(out, wantOut) {
				t.Fatalf("Step(%q, %v, %v, %d) is %v, %v, not %v, %v", r.name, rawState, rawIn, now, state, out, wantState, wantOut)
			}
			fit(t, r, state, out)
		}
	}
}

func fit(t *testing.T, r row, state, out []int) {
	t.Helper()
	if len(state) != len(r.state) || len(out) != len(r.outs) {
		t.Fatalf("%s: %v, %v: not as many as there are pins", r.name, state, out)
	}
	for i, p := range r.state {
		if !cell.Fits(p.Kind, state[i]) {
			t.Fatalf("%s: %d is no %s", r.name, state[i], p.Name)
		}
	}
	for i, p := range r.outs {
		if !cell.Fits(p.Kind, out[i]) {
			t.Fatalf("%s: %d is no %s", r.name, out[i], p.Name)
		}
	}
}

// TestWrongLengths: a list that is too short or too long is all noughts, whatever the other one is.
func TestWrongLengths(t *testing.T) {
	d := die(13)
	for _, r := range rows() {
		for many := range 9 {
			long := slices.Repeat([]int{1}, many)
			for range 50 {
				state, in, now := d.words(r.state, 50), d.words(r.ins, 50), d.n(100)
				if many != len(r.state) {
					same(t, r.name, long, in, make([]int, len(r.state)), in, now)
				}
				if many != len(r.ins) {
					same(t, r.name, state, long, state, make([]int, len(r.ins)), now)
				}
				if many != len(r.state) && many != len(r.ins) {
					same(t, r.name, long, long, make([]int, len(r.state)), make([]int, len(r.ins)), now)
				}
			}
		}
		same(t, r.name, nil, nil, make([]int, len(r.state)), make([]int, len(r.ins)), 5)
	}
}

// same: do two calls of a block answer alike?
func same(t *testing.T, name string, state, in, state2, in2 []int, now int) {
	t.Helper()
	a, x := blocks.Step(name, state, in, now)
	b, y := blocks.Step(name, state2, in2, now)
	if !slices.Equal(a, b) || !slices.Equal(x, y) {
		t.Errorf("Step(%q, %v, %v, %d) is %v, %v; of %v, %v it is %v, %v", name, state, in, now, a, x, state2, in2, b, y)
	}
}

func TestWrongLengthsByHand(t *testing.T) {
	playFrom(t, "ctu", []int{1, 5, 0}, call{0, []int{1, 0, 1}, []int{1, 1}, []int{1, 1}})
	playFrom(t, "ctu", []int{1, 5}, call{0, []int{1, 0, 1, 1}, []int{0, 5}, []int{1, 5}})
	playFrom(t, "ctu", []int{1}, call{0, []int{1, 0}, []int{0, 0}, []int{1, 0}})
	playFrom(t, "sr", []int{}, call{0, []int{1}, []int{0}, []int{0}})
	playFrom(t, "sr", []int{1, 1}, call{0, []int{0, 0}, []int{0}, []int{0}})
	playFrom(t, "tp", []int{1, 0, 0, 0, 0}, call{7, nil, []int{0, 0, 0, 0}, []int{0, 0}})
}
