package pair_test

import (
	"testing"

	"plantwright/api"
)

// Promise 13.2: side 0 is active, side 1 is not.
func TestStart(t *testing.T) {
	starts(t, 0, 2, []int{5, 6}, api.Side{Me: 0, Active: true, Patience: 2, Image: []int{5, 6}})
	starts(t, 1, 2, []int{5, 6}, api.Side{Me: 1, Patience: 2, Image: []int{5, 6}})
	for me := range 2 {
		for patience := 1; patience <= api.MaxPatience; patience++ {
			starts(t, me, patience, []int{7}, api.Side{Me: me, Active: me == 0, Patience: patience, Image: []int{7}})
		}
		for _, n := range []int{0, 1, 2, 60, 256, 2000, api.MaxFrame - 1, api.MaxFrame} {
			starts(t, me, 3, many(n), api.Side{Me: me, Active: me == 0, Patience: 3, Image: many(n)})
		}
		starts(t, me, 1, nil, api.Side{Me: me, Active: me == 0, Patience: 1})
		starts(t, me, 1, []int{}, api.Side{Me: me, Active: me == 0, Patience: 1})
		starts(t, me, 1, far, api.Side{Me: me, Active: me == 0, Patience: 1, Image: far})
	}
}

// A number that is none comes ahead of a list that is too long.
func TestStartErrors(t *testing.T) {
	over := make([]int, api.MaxFrame+1)
	for _, n := range noSides {
		for _, patience := range []int{1, 2, api.MaxPatience, 0, api.MaxPatience + 1} {
			unstarted(t, n, patience, nil, api.ErrRange)
			unstarted(t, n, patience, []int{1}, api.ErrRange)
			unstarted(t, n, patience, over, api.ErrRange)
		}
	}
	for _, n := range noPatiences {
		for me := range 2 {
			unstarted(t, me, n, nil, api.ErrRange)
			unstarted(t, me, n, []int{1}, api.ErrRange)
			unstarted(t, me, n, over, api.ErrRange)
		}
	}
	for _, n := range tooMany {
		for me := range 2 {
			unstarted(t, me, 1, make([]int, n), api.ErrSize)
			unstarted(t, me, api.MaxPatience, make([]int, n), api.ErrSize)
		}
	}
}
