package blocks_test

import (
	"testing"

	"plantwright/blocks"
)

func TestCtu(t *testing.T) {
	play(t, "ctu",
		call{0, []int{0, 0, 2}, []int{0, 0}, []int{0, 0}},
		call{0, []int{1, 0, 2}, []int{1, 1}, []int{0, 1}},
		call{0, []int{1, 0, 2}, []int{1, 1}, []int{0, 1}}, // it came up once
		call{0, []int{0, 0, 2}, []int{0, 1}, []int{0, 1}},
		call{0, []int{1, 0, 2}, []int{1, 2}, []int{1, 2}},
		call{0, []int{0, 0, 2}, []int{0, 2}, []int{1, 2}},
		call{0, []int{1, 0, 2}, []int{1, 3}, []int{1, 3}},
		call{0, []int{1, 0, 4}, []int{1, 3}, []int{0, 3}}, // pv counts as it is now
		call{0, []int{0, 1, 4}, []int{0, 0}, []int{0, 0}},
		call{0, []int{1, 1, 4}, []int{1, 0}, []int{0, 0}}, // an edge that comes with a reset is gone
		call{0, []int{1, 0, 4}, []int{1, 0}, []int{0, 0}},
		call{0, []int{1, 0, 0}, []int{1, 0}, []int{1, 0}},
		call{0, []int{1, 0, -5}, []int{1, 0}, []int{1, 0}},
	)
	playFrom(t, "ctu", []int{0, 32766}, // it stops at the end of the range
		call{0, []int{1, 0, 32767}, []int{1, 32767}, []int{1, 32767}},
		call{0, []int{0, 0, 32767}, []int{0, 32767}, []int{1, 32767}},
		call{0, []int{1, 0, 32767}, []int{1, 32767}, []int{1, 32767}},
		call{0, []int{1, 1, 32767}, []int{1, 0}, []int{0, 0}},
	)
	playFrom(t, "ctu", []int{0, -32768}, call{0, []int{1, 0, 0}, []int{1, -32767}, []int{0, -32767}})
}

func TestCtd(t *testing.T) {
	play(t, "ctd",
		call{0, []int{0, 0, 2}, []int{0, 0}, []int{1, 0}},
		call{0, []int{0, 1, 2}, []int{0, 2}, []int{0, 2}},
		call{0, []int{1, 0, 2}, []int{1, 1}, []int{0, 1}},
		call{0, []int{1, 0, 2}, []int{1, 1}, []int{0, 1}},
		call{0, []int{0, 0, 2}, []int{0, 1}, []int{0, 1}},
		call{0, []int{1, 0, 2}, []int{1, 0}, []int{1, 0}},
		call{0, []int{0, 0, 2}, []int{0, 0}, []int{1, 0}},
		call{0, []int{1, 0, 2}, []int{1, -1}, []int{1, -1}},
		call{0, []int{0, 0, 2}, []int{0, -1}, []int{1, -1}},
		call{0, []int{1, 1, 9}, []int{1, 9}, []int{0, 9}}, // an edge that comes with a load is gone
		call{0, []int{1, 0, 9}, []int{1, 9}, []int{0, 9}},
		call{0, []int{1, 1, -9}, []int{1, -9}, []int{1, -9}},
	)
	playFrom(t, "ctd", []int{0, -32767}, // it stops at the end of the range
		call{0, []int{1, 0, 5}, []int{1, -32768}, []int{1, -32768}},
		call{0, []int{0, 0, 5}, []int{0, -32768}, []int{1, -32768}},
		call{0, []int{1, 0, 5}, []int{1, -32768}, []int{1, -32768}},
		call{0, []int{1, 1, 5}, []int{1, 5}, []int{0, 5}},
	)
	playFrom(t, "ctd", []int{0, 32767}, call{0, []int{1, 0, 0}, []int{1, 32766}, []int{0, 32766}})
}

func TestCtud(t *testing.T) {
	play(t, "ctud",
		call{0, []int{0, 0, 0, 0, 2}, []int{0, 0, 0}, []int{0, 1, 0}},
		call{0, []int{1, 0, 0, 0, 2}, []int{1, 0, 1}, []int{0, 0, 1}},
		call{0, []int{1, 0, 0, 0, 2}, []int{1, 0, 1}, []int{0, 0, 1}},
		call{0, []int{1, 1, 0, 0, 2}, []int{1, 1, 0}, []int{0, 1, 0}}, // only cd has come up here: cu was true
		call{0, []int{0, 0, 0, 0, 2}, []int{0, 0, 0}, []int{0, 1, 0}},
		call{0, []int{1, 1, 0, 0, 2}, []int{1, 1, 0}, []int{0, 1, 0}}, // both at once: neither counts
		call{0, []int{0, 1, 0, 0, 2}, []int{0, 1, 0}, []int{0, 1, 0}},
		call{0, []int{1, 1, 0, 0, 2}, []int{1, 1, 1}, []int{0, 0, 1}}, // only cu has
		call{0, []int{0, 0, 0, 1, 5}, []int{0, 0, 5}, []int{1, 0, 5}},
		call{0, []int{0, 1, 0, 0, 5}, []int{0, 1, 4}, []int{0, 0, 4}},
		call{0, []int{0, 0, 1, 1, 5}, []int{0, 0, 0}, []int{0, 1, 0}}, // r goes ahead of ld
		call{0, []int{1, 0, 0, 1, 7}, []int{1, 0, 7}, []int{1, 0, 7}}, // ld ahead of cu, whose edge is gone
		call{0, []int{1, 0, 0, 0, 7}, []int{1, 0, 7}, []int{1, 0, 7}},
		call{0, []int{1, 1, 1, 0, 7}, []int{1, 1, 0}, []int{0, 1, 0}},
		call{0, []int{1, 1, 0, 0, -1}, []int{1, 1, 0}, []int{1, 1, 0}},
		call{0, []int{0, 0, 0, 1, -3}, []int{0, 0, -3}, []int{1, 1, -3}},
	)
	playFrom(t, "ctud", []int{0, 0, 32766}, // it stops at both ends of the range
		call{0, []int{1, 0, 0, 0, 0}, []int{1, 0, 32767}, []int{1, 0, 32767}},
		call{0, []int{0, 0, 0, 0, 0}, []int{0, 0, 32767}, []int{1, 0, 32767}},
		call{0, []int{1, 0, 0, 0, 0}, []int{1, 0, 32767}, []int{1, 0, 32767}},
		call{0, []int{0, 1, 0, 0, 0}, []int{0, 1, 32766}, []int{1, 0, 32766}},
	)
	playFrom(t, "ctud", []int{0, 0, -32767},
		call{0, []int{0, 1, 0, 0, 0}, []int{0, 1, -32768}, []int{0, 1, -32768}},
		call{0, []int{0, 0, 0, 0, 0}, []int{0, 0, -32768}, []int{0, 1, -32768}},
		call{0, []int{0, 1, 0, 0, 0}, []int{0, 1, -32768}, []int{0, 1, -32768}},
		call{0, []int{1, 0, 0, 0, 0}, []int{1, 0, -32767}, []int{0, 1, -32767}},
	)
}

// TestCountIsHowOften: a counter's count is how often its input came up since it was reset, up to 32767.
func TestCountIsHowOften(t *testing.T) {
	d := die(31)
	for range 20 {
		var state []int
		often, was := 0, 0
		for range 300 {
			cu, r := d.n(2), d.n(60)/59
			if r == 1 {
				often = 0
			} else if cu > was {
				often++
			}
			was = cu
			var out []int
			if state, out = blocks.Step("ctu", state, []int{cu, r, 10}, d.n(1000)); out[1] != often {
				t.Fatalf("the count is %d; it came up %d times", out[1], often)
			}
		}
	}
}

func TestCountToTheEnd(t *testing.T) {
	var state []int
	for i := range 2 * 32770 {
		var out []int
		state, out = blocks.Step("ctu", state, []int{1 - i%2, 0, 0}, 0)
		if want := min(i/2+1, 32767); out[1] != want {
			t.Fatalf("behind %d calls the count is %d, not %d", i+1, out[1], want)
		}
	}
}
