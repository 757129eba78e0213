package change_test

import (
	"slices"
	"testing"

	"plantwright/api"
)

// As many words as a frame may have, and one more; likewise slots.
func TestLimits(t *testing.T) {
	words := upTo(0, api.MaxFrame)
	more := upTo(0, api.MaxFrame+1)
	good(t, unit(words))
	bad(t, unit(more))
	bad(t, unit(upTo(0, 1<<20)))
	bad(t, unit(more, one("a", api.Int, 0)))
	slots := slices.Repeat(list(one("a", api.Int, 0)), api.MaxSlots+1)
	good(t, unit(list(1), slots[:api.MaxSlots]...))
	bad(t, unit(list(1), slots...))
	bad(t, unit(list(1), slices.Repeat(slots, 10)...))
	bad(t, unit(nil, slots...))
	bad(t, unit(more, slots...))
	carries(t, unit(words), words, unit(words), words, nil, nil)
	carries(t, unit(words, some("y", api.Int, 0, api.MaxFrame)), upTo(5, api.MaxFrame), unit(words, some("y", api.Int, 0, api.MaxFrame)), upTo(5, api.MaxFrame), nil, nil)
}

// As many slots as may be, of as many words, all of them the same, or each one another.
func TestGreat(t *testing.T) {
	words := upTo(0, api.MaxFrame)
	var there, back []api.Slot
	var paths []string
	for i := range api.MaxSlots {
		path := string([]byte{byte(i), byte(i >> 8)})
		there, back = append(there, one(path, api.Int, i)), append(back, one(path, api.Int, api.MaxFrame-1-i))
		paths = append(paths, path)
	}
	want := upTo(70000, api.MaxFrame)
	slices.Reverse(want)
	carries(t, unit(words, there...), upTo(70000, api.MaxFrame), unit(words, back...), want, nil, nil)
	carries(t, unit(words, there...), upTo(70000, api.MaxFrame), unit(words), words, paths, nil)
	carries(t, unit(words), upTo(70000, api.MaxFrame), unit(words, there...), words, nil, paths)
	same := unit(words, slices.Repeat(list(some("y", api.Int, 1, api.MaxFrame-1)), api.MaxSlots)...)
	carries(t, same, upTo(70000, api.MaxFrame), same, append(list(0), upTo(70001, api.MaxFrame-1)...), nil, nil)
}

// places: is a slot refused, or not, wherever it stands among others?
func places(t *testing.T, words int, s api.Slot, looks func(*testing.T, api.Proc)) {
	t.Helper()
	looks(t, unit(upTo(0, words), s))
	if words == 0 {
		return
	}
	for place := range 4 {
		slots := slices.Repeat(list(one("b", api.Int, 0)), 3)
		looks(t, unit(upTo(0, words), slices.Insert(slots, place, s)...))
	}
}

// A slot's words lie within First: all places and numbers of elements around the ends of short frames.
func TestWithin(t *testing.T) {
	for words := range 5 {
		for at := -3; at <= 6; at++ {
			for elements := -3; elements <= 6; elements++ {
				looks := bad
				if elements >= 0 && at >= 0 && at+max(elements, 1) <= words {
					looks = good
				}
				places(t, words, some("a", api.Int, at, elements), looks)
			}
		}
	}
}

// At the ends of the longest frame.
func TestWithinLongest(t *testing.T) {
	n := api.MaxFrame
	for _, s := range []api.Slot{one("a", api.Int, n-1), some("a", api.Int, n-1, 1), some("a", api.Int, 0, n), some("a", api.Int, 1, n-1), some("a", api.Int, n/2, n/2)} {
		places(t, n, s, good)
		s.At++
		places(t, n, s, bad)
	}
	places(t, n, some("a", api.Int, 0, n+1), bad)
	places(t, n, some("a", api.Int, -1, n), bad)
}

// Numbers that are far off: the sum of At and Len may be no number any more, or come round to one that would do.
func TestFarOff(t *testing.T) {
	for _, x := range far {
		places(t, 9, one("a", api.Int, x), bad)
		places(t, 9, some("a", api.Int, x, 1), bad)
		places(t, 9, some("a", api.Int, 0, x), bad)
		places(t, 9, some("a", api.Int, 8, x), bad)
		for _, y := range far {
			places(t, 9, some("a", api.Int, x, y), bad)
			places(t, 0, some("a", api.Int, x, y), bad)
		}
	}
}

// The frame has as many words as old's First: not one less, not one more; now's do not count.
func TestFrameSize(t *testing.T) {
	for n := range 6 {
		for words := range 9 {
			old, now := unit(upTo(0, n)), unit(upTo(50, words))
			if n == words {
				carries(t, old, upTo(20, words), now, upTo(50, words), nil, nil)
				continue
			}
			refuses(t, old, upTo(20, words), now, api.ErrSize)
			refuses(t, old, upTo(20, words), old, api.ErrSize)
		}
	}
	old := unit(upTo(0, 3), one("a", api.Int, 0))
	refuses(t, old, nil, old, api.ErrSize)
	refuses(t, old, []int{}, old, api.ErrSize)
	refuses(t, old, upTo(0, 8)[:2], old, api.ErrSize)
	refuses(t, old, upTo(0, 1<<20), old, api.ErrSize)
	refuses(t, api.Proc{}, list(1), old, api.ErrSize)
	longest := unit(upTo(0, api.MaxFrame))
	refuses(t, longest, upTo(0, api.MaxFrame-1), old, api.ErrSize)
	refuses(t, longest, upTo(0, api.MaxFrame+1), old, api.ErrSize)
}

// What is wrong with old comes ahead of the frame's size, this ahead of what is wrong with now.
func TestFirstError(t *testing.T) {
	right := unit(list(1, 2), one("a", api.Int, 0))
	for _, wrong := range []api.Proc{
		unit(list(1, 2), one("a", api.Int, 2)), unit(list(1, 2), some("a", api.Int, 0, -1)), unit(list(1, 2), some("a", api.Int, 0, 3)),
		unit(upTo(0, api.MaxFrame+1)), unit(list(1, 2), slices.Repeat(list(one("a", api.Int, 0)), api.MaxSlots+1)...),
	} {
		for _, now := range []api.Proc{right, wrong, {}} {
			refuses(t, wrong, nil, now, api.ErrCode)
			refuses(t, wrong, list(1), now, api.ErrCode)
			refuses(t, wrong, make([]int, len(wrong.First)), now, api.ErrCode)
			refuses(t, wrong, make([]int, len(wrong.First)+1), now, api.ErrCode)
		}
		refuses(t, right, nil, wrong, api.ErrSize)
		refuses(t, right, list(1), wrong, api.ErrSize)
		refuses(t, right, make([]int, 3), wrong, api.ErrSize)
		refuses(t, right, list(1, 2), wrong, api.ErrCode)
		refuses(t, api.Proc{}, nil, wrong, api.ErrCode)
		refuses(t, api.Proc{}, list(1), wrong, api.ErrSize)
	}
}

// Instructions are not looked at, nor what else the unit is: such as Verify would refuse are carried over.
func TestTextIsNotAsked(t *testing.T) {
	texts := [][]api.Instr{
		nil, {}, {{Do: api.Store, A: 99}}, {{Do: 77, A: -1, B: -1, C: -1}}, {{Do: api.Jump}}, {{Do: api.Run, A: 3}}, make([]api.Instr, api.MaxCode+1),
	}
	old := unit(list(1, 2), one("a", api.Int, 0), one("b", api.Int, 1))
	now := unit(list(3, 4), one("b", api.Int, 0), one("c", api.Int, 1))
	for _, text := range texts {
		for _, kind := range []api.UnitKind{api.Program, api.Function, api.Block, 0, -1, 9} {
			odd := func(p *api.Proc) { p.Text, p.Kind, p.Name = text, kind, "" }
			carries(t, with(old, odd), list(7, 8), now, list(8, 4), list("a"), list("c"))
			carries(t, old, list(7, 8), with(now, odd), list(8, 4), list("a"), list("c"))
			refuses(t, with(old, odd), list(7), now, api.ErrSize)
		}
	}
}
