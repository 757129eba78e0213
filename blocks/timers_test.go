package blocks_test

import (
	"slices"
	"testing"

	"plantwright/blocks"
)

const top = 1<<32 - 1

func TestTon(t *testing.T) {
	play(t, "ton", // the chapter's example
		call{4294967290, []int{1, 100}, []int{1, 4294967290, 0, 0}, []int{0, 0}},
		call{4294967295, []int{1, 100}, []int{1, 4294967290, 0, 5}, []int{0, 5}},
		call{94, []int{1, 100}, []int{1, 4294967290, 1, 100}, []int{1, 100}},
		call{95, []int{1, 100}, []int{1, 4294967290, 1, 100}, []int{1, 100}},
	)
	play(t, "ton", // broken off, and begun anew
		call{5, []int{0, 10}, []int{0, 0, 0, 0}, []int{0, 0}},
		call{10, []int{1, 10}, []int{1, 10, 0, 0}, []int{0, 0}},
		call{19, []int{1, 10}, []int{1, 10, 0, 9}, []int{0, 9}},
		call{20, []int{0, 10}, []int{0, 0, 0, 0}, []int{0, 0}},
		call{21, []int{1, 10}, []int{1, 21, 0, 0}, []int{0, 0}},
		call{30, []int{1, 10}, []int{1, 21, 0, 9}, []int{0, 9}},
		call{31, []int{1, 10}, []int{1, 21, 1, 10}, []int{1, 10}},
		call{32, []int{0, 10}, []int{0, 0, 0, 0}, []int{0, 0}},
	)
	play(t, "ton", // done stays, though pt grows and the clock goes round
		call{0, []int{1, 10}, []int{1, 0, 0, 0}, []int{0, 0}},
		call{50, []int{1, 10}, []int{1, 0, 1, 10}, []int{1, 10}},
		call{51, []int{1, 1000}, []int{1, 0, 1, 10}, []int{1, 10}},
		call{1 << 32, []int{1, 1000}, []int{1, 0, 1, 10}, []int{1, 10}},
		call{3, []int{1, 0}, []int{1, 0, 1, 10}, []int{1, 10}},
	)
	play(t, "ton", // pt falls while it runs
		call{0, []int{1, 100}, []int{1, 0, 0, 0}, []int{0, 0}},
		call{40, []int{1, 30}, []int{1, 0, 1, 30}, []int{1, 30}},
	)
	play(t, "ton", // pt 0: at once
		call{7, []int{1, 0}, []int{1, 7, 1, 0}, []int{1, 0}},
	)
	play(t, "ton", // the greatest pt
		call{7, []int{1, top}, []int{1, 7, 0, 0}, []int{0, 0}},
		call{5, []int{1, top}, []int{1, 7, 0, top - 1}, []int{0, top - 1}},
		call{6, []int{1, top}, []int{1, 7, 1, top}, []int{1, top}},
	)
	// States that no call leaves: what did not run begins with all that belongs to it.
	playFrom(t, "ton", []int{0, 3, 1, 9}, call{20, []int{1, 10}, []int{1, 20, 0, 0}, []int{0, 0}})
	playFrom(t, "ton", []int{0, 3, 1, 9}, call{20, []int{1, 0}, []int{1, 20, 1, 0}, []int{1, 0}})
	playFrom(t, "ton", []int{1, 3, 1, 9}, call{20, []int{1, 10}, []int{1, 3, 1, 9}, []int{1, 9}})
	playFrom(t, "ton", []int{1, 3, 1, 9}, call{20, []int{0, 10}, []int{0, 0, 0, 0}, []int{0, 0}})
}

func TestTof(t *testing.T) {
	play(t, "tof",
		call{0, []int{0, 10}, []int{0, 0, 0, 0}, []int{0, 0}},
		call{5, []int{1, 10}, []int{0, 0, 1, 0}, []int{1, 0}},
		call{8, []int{1, 10}, []int{0, 0, 1, 0}, []int{1, 0}},
		call{20, []int{0, 10}, []int{1, 20, 1, 0}, []int{1, 0}},
		call{29, []int{0, 10}, []int{1, 20, 1, 9}, []int{1, 9}},
		call{30, []int{0, 10}, []int{0, 0, 0, 10}, []int{0, 10}},
		call{99, []int{0, 50}, []int{0, 0, 0, 10}, []int{0, 10}},
		call{100, []int{1, 10}, []int{0, 0, 1, 0}, []int{1, 0}},
	)
	play(t, "tof", // on again ahead of its time: it begins anew
		call{0, []int{1, 10}, []int{0, 0, 1, 0}, []int{1, 0}},
		call{1, []int{0, 10}, []int{1, 1, 1, 0}, []int{1, 0}},
		call{9, []int{0, 10}, []int{1, 1, 1, 8}, []int{1, 8}},
		call{10, []int{1, 10}, []int{0, 0, 1, 0}, []int{1, 0}},
		call{12, []int{0, 10}, []int{1, 12, 1, 0}, []int{1, 0}},
		call{21, []int{0, 10}, []int{1, 12, 1, 9}, []int{1, 9}},
		call{50, []int{0, 10}, []int{0, 0, 0, 10}, []int{0, 10}},
	)
	play(t, "tof", // over the end of the clock
		call{top - 3, []int{1, 10}, []int{0, 0, 1, 0}, []int{1, 0}},
		call{top - 2, []int{0, 10}, []int{1, top - 2, 1, 0}, []int{1, 0}},
		call{6, []int{0, 10}, []int{1, top - 2, 1, 9}, []int{1, 9}},
		call{7, []int{0, 10}, []int{0, 0, 0, 10}, []int{0, 10}},
	)
	play(t, "tof", // pt 0: at once
		call{4, []int{1, 0}, []int{0, 0, 1, 0}, []int{1, 0}},
		call{5, []int{0, 0}, []int{0, 0, 0, 0}, []int{0, 0}},
	)
	// States that no call leaves: off, nothing is done, whatever the rest says.
	playFrom(t, "tof", []int{1, 3, 0, 9}, call{20, []int{0, 10}, []int{1, 3, 0, 9}, []int{0, 9}})
	playFrom(t, "tof", []int{1, 3, 0, 9}, call{20, []int{1, 10}, []int{0, 0, 1, 0}, []int{1, 0}})
	playFrom(t, "tof", []int{0, 3, 1, 9}, call{20, []int{0, 10}, []int{1, 20, 1, 0}, []int{1, 0}})
}

func TestTp(t *testing.T) {
	play(t, "tp", // the chapter's example
		call{0, []int{1, 10}, []int{1, 0, 1, 0}, []int{1, 0}},
		call{5, []int{0, 10}, []int{1, 0, 0, 5}, []int{1, 5}},
		call{9, []int{1, 10}, []int{1, 0, 1, 9}, []int{1, 9}},
		call{10, []int{1, 10}, []int{0, 0, 1, 10}, []int{0, 10}},
		call{20, []int{1, 10}, []int{0, 0, 1, 10}, []int{0, 10}},
	)
	play(t, "tp", // in stays longer than the pulse: et stays, till in falls
		call{3, []int{1, 10}, []int{1, 3, 1, 0}, []int{1, 0}},
		call{13, []int{1, 10}, []int{0, 0, 1, 10}, []int{0, 10}},
		call{14, []int{1, 10}, []int{0, 0, 1, 10}, []int{0, 10}},
		call{15, []int{0, 10}, []int{0, 0, 0, 0}, []int{0, 0}},
		call{16, []int{1, 10}, []int{1, 16, 1, 0}, []int{1, 0}},
	)
	play(t, "tp", // in falls ahead of the end: et is pt in the call that ends it, then 0
		call{3, []int{1, 10}, []int{1, 3, 1, 0}, []int{1, 0}},
		call{4, []int{0, 10}, []int{1, 3, 0, 1}, []int{1, 1}},
		call{14, []int{0, 10}, []int{0, 0, 0, 10}, []int{0, 10}},
		call{15, []int{0, 10}, []int{0, 0, 0, 0}, []int{0, 0}},
	)
	play(t, "tp", // in comes up in the call that ends the pulse: that is no new one
		call{0, []int{1, 10}, []int{1, 0, 1, 0}, []int{1, 0}},
		call{1, []int{0, 10}, []int{1, 0, 0, 1}, []int{1, 1}},
		call{12, []int{1, 10}, []int{0, 0, 1, 10}, []int{0, 10}},
		call{13, []int{1, 10}, []int{0, 0, 1, 10}, []int{0, 10}},
	)
	play(t, "tp", // over the end of the clock
		call{top, []int{1, 10}, []int{1, top, 1, 0}, []int{1, 0}},
		call{8, []int{1, 10}, []int{1, top, 1, 9}, []int{1, 9}},
		call{9, []int{1, 10}, []int{0, 0, 1, 10}, []int{0, 10}},
	)
	play(t, "tp", // pt 0: no pulse
		call{5, []int{1, 0}, []int{0, 0, 1, 0}, []int{0, 0}},
		call{6, []int{0, 0}, []int{0, 0, 0, 0}, []int{0, 0}},
	)
	// States that no call leaves.
	playFrom(t, "tp", []int{0, 3, 1, 9}, call{20, []int{1, 10}, []int{0, 3, 1, 9}, []int{0, 9}})
	playFrom(t, "tp", []int{0, 3, 1, 9}, call{20, []int{0, 10}, []int{0, 3, 0, 0}, []int{0, 0}})
	playFrom(t, "tp", []int{0, 3, 0, 9}, call{20, []int{1, 0}, []int{0, 0, 1, 0}, []int{0, 0}})
}

// TestClockAhead: a clock that is ahead by any amount makes no difference to any output.
func TestClockAhead(t *testing.T) {
	d := die(21)
	for _, r := range rows() {
		for range 300 {
			ahead := []int{d.n(1 << 30), 1 << 31, top - d.n(200), top, 1 << 40, -1, -d.n(1 << 30)}[d.n(7)]
			now := d.n(100)
			var one, other []int
			for range 20 {
				in := d.words(r.ins, 30)
				now += d.n(25)
				var x, y []int
				one, x = blocks.Step(r.name, one, in, now)
				other, y = blocks.Step(r.name, other, in, now+ahead)
				if !slices.Equal(x, y) {
					t.Fatalf("%s of %v at %d: %v; with a clock that is ahead by %d: %v", r.name, in, now, x, ahead, y)
				}
			}
		}
	}
}

// TestTonIsOnBehindPt: ton is on just where in has been true without a break for pt.
func TestTonIsOnBehindPt(t *testing.T) {
	d := die(22)
	for range 500 {
		pt, now := d.n(60), d.n(1<<30)*8
		begun := -1
		var state []int
		for range 40 {
			in := min(d.n(8), 1)
			now += d.n(20)
			if in == 0 {
				begun = -1
			} else if begun < 0 {
				begun = now
			}
			var out []int
			state, out = blocks.Step("ton", state, []int{in, pt}, now)
			want := []int{0, 0}
			if begun >= 0 {
				want[1] = min(now-begun, pt)
			}
			if begun >= 0 && now-begun >= pt {
				want[0] = 1
			}
			if !slices.Equal(out, want) {
				t.Fatalf("ton of pt %d, true since %d, at %d: %v, not %v", pt, begun, now, out, want)
			}
		}
	}
}
