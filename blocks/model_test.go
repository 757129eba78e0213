package blocks_test

import (
	"slices"
	"testing"

	"plantwright/api"
	"plantwright/blocks"
	"plantwright/cell"
)

// words by their names: what a call of the model works on.
type words map[string]int

// model is the chapter's text, rule by rule, on words with names; what it answers are all outputs.
func model(name string, s, in words, now int) words {
	e := func() int { return cell.Wrap(api.Time, now-s["since"]) }
	switch name {
	case "ton":
		modelTon(s, in, now, e)
		return words{"q": s["done"], "et": s["at"]}
	case "tof":
		modelTof(s, in, now, e)
		return words{"q": s["on"], "et": s["at"]}
	case "tp":
		modelTp(s, in, now, e)
		return words{"q": s["run"], "et": s["at"]}
	case "ctu", "ctd", "ctud":
		return modelCount(name, s, in)
	case "r_trig":
		q := in["clk"] == 1 && s["prev"] == 0
		s["prev"] = in["clk"]
		return words{"q": bit(q)}
	case "f_trig":
		q := s["prev"] == 1 && in["clk"] == 0
		s["prev"] = in["clk"]
		return words{"q": bit(q)}
	case "sr":
		s["on"] = bit(in["s1"] == 1 || s["on"] == 1 && in["r"] == 0)
		return words{"q1": s["on"]}
	case "rs":
		s["on"] = bit((in["s"] == 1 || s["on"] == 1) && in["r1"] == 0)
		return words{"q1": s["on"]}
	case "ramp":
		s["at"] = modelRamp(s["at"], in["x"], in["step"])
		return words{"y": s["at"]}
	}
	if in["x"] >= in["hi"] {
		s["on"] = 1
	} else if in["x"] <= in["lo"] {
		s["on"] = 0
	}
	return words{"q": s["on"]}
}

func modelTon(s, in words, now int, e func() int) {
	if in["in"] == 0 {
		clear(s)
		return
	}
	if s["run"] == 0 {
		s["run"], s["since"], s["done"], s["at"] = 1, now, 0, 0
	}
	if s["done"] == 0 {
		if e() >= in["pt"] {
			s["done"], s["at"] = 1, in["pt"]
		} else {
			s["at"] = e()
		}
	}
}

func modelTof(s, in words, now int, e func() int) {
	if in["in"] == 1 {
		clear(s)
		s["on"] = 1
		return
	}
	if s["on"] == 0 {
		return
	}
	if s["run"] == 0 {
		s["run"], s["since"] = 1, now
	}
	if e() >= in["pt"] {
		s["on"], s["run"], s["since"], s["at"] = 0, 0, 0, in["pt"]
	} else {
		s["at"] = e()
	}
}

func modelTp(s, in words, now int, e func() int) {
	was := s["run"]
	if in["in"] == 1 && s["prev"] == 0 && s["run"] == 0 {
		s["run"], s["since"] = 1, now
	}
	if s["run"] == 1 {
		if e() >= in["pt"] {
			s["run"], s["since"], s["at"] = 0, 0, in["pt"]
		} else {
			s["at"] = e()
		}
	}
	if was == 0 && s["run"] == 0 && in["in"] == 0 {
		s["at"] = 0
	}
	s["prev"] = in["in"]
}

func modelCount(name string, s, in words) words {
	up := in["cu"] == 1 && s["up"]+s["prev"] == 0
	down := in["cd"] == 1 && s["down"]+s["prev"] == 0
	switch {
	case in["r"] == 1:
		s["count"] = 0
	case in["ld"] == 1:
		s["count"] = in["pv"]
	case up && !down && s["count"] < 32767:
		s["count"]++
	case down && !up && s["count"] > -32768:
		s["count"]--
	}
	full, empty := bit(s["count"] >= in["pv"]), bit(s["count"] <= 0)
	switch name {
	case "ctu":
		s["prev"] = in["cu"]
		return words{"q": full, "cv": s["count"]}
	case "ctd":
		s["prev"] = in["cd"]
		return words{"q": empty, "cv": s["count"]}
	}
	s["up"], s["down"] = in["cu"], in["cd"]
	return words{"qu": full, "qd": empty, "cv": s["count"]}
}

func modelRamp(at, x, step int) int {
	for range step {
		if at < x {
			at++
		} else if at > x {
			at--
		}
	}
	return at
}

func bit(b bool) int {
	if b {
		return 1
	}
	return 0
}

func byName(pins []api.Pin, l []int) words {
	w := words{}
	for i, p := range pins {
		w[p.Name] = l[i]
	}
	return w
}

func inOrder(pins []api.Pin, w words) []int {
	var l []int
	for _, p := range pins {
		l = append(l, w[p.Name])
	}
	return l
}

// TestModel: on any state, one that calls left or not, a step is what the chapter says.
func TestModel(t *testing.T) {
	d := die(41)
	for _, r := range rows() {
		state := make([]int, len(r.state))
		now := 0
		for i := range 6000 {
			if i%10 == 0 {
				now = d.word(api.Time, 0)
				state = d.words(r.state, now)
			}
			pt := cell.Wrap(api.Time, now-state[min(1, len(state)-1)])
			in := d.words(r.ins, pt)
			s := byName(r.state, state)
			out := inOrder(r.outs, model(r.name, s, byName(r.ins, in), now))
			want := inOrder(r.state, s)
			got, gotOut := blocks.Step(r.name, state, in, now)
			if !slices.Equal(got, want) || !slices.Equal(gotOut, out) {
				t.Fatalf("Step(%q, %v, %v, %d) is %v, %v, not %v, %v", r.name, state, in, now, got, gotOut, want, out)
			}
			fit(t, r, got, gotOut)
			state, now = got, cell.Wrap(api.Time, now+d.n(12))
		}
	}
}
