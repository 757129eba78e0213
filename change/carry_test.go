package change_test

import (
	"math"
	"strings"
	"testing"

	"plantwright/api"
)

// The chapter's example.
func TestExample(t *testing.T) {
	old := unit(list(0, 0), one("a", api.Int, 0), one("b", api.Int, 1))
	now := unit(list(1, 2, 0), one("b", api.Int, 0), one("a", api.Dint, 1), one("c", api.Bool, 2))
	carries(t, old, list(7, 8), now, list(8, 2, 0), list("a"), list("a", "c"))
}

// Units without words, without slots.
func TestNothing(t *testing.T) {
	a := one("a", api.Int, 0)
	carries(t, api.Proc{}, nil, api.Proc{}, nil, nil, nil)
	carries(t, unit([]int{}), []int{}, unit([]int{}), nil, nil, nil)
	carries(t, api.Proc{}, nil, unit(list(1, 2)), list(1, 2), nil, nil)
	carries(t, unit(list(1, 2)), list(8, 9), api.Proc{}, nil, nil, nil)
	carries(t, unit(list(1, 2)), list(8, 9), unit(list(3, 4)), list(3, 4), nil, nil)
	carries(t, unit(list(1), a), list(7), api.Proc{}, nil, list("a"), nil)
	carries(t, api.Proc{}, nil, unit(list(1), a), list(1), nil, list("a"))
}

// A slot is the same if its path, its kind and how many elements it has are.
func TestSame(t *testing.T) {
	slots := []api.Slot{}
	for _, path := range []string{"", "a", "b", "A", "a ", "aa", "a.a", "t.q", "t.%run", "%0", "a\x00", "\xff", "é", strings.Repeat("a", 10000), strings.Repeat("a", 9999) + "b"} {
		for _, kind := range []api.Kind{api.None, api.Bool, api.Int, api.Dint, api.Word, api.Time, 6, -1, 258, math.MinInt} {
			for elements := range 4 {
				slots = append(slots, some(path, kind, 1, elements))
			}
		}
	}
	old := upTo(100, 5)
	for i := range slots {
		for j := range slots {
			a, b := slots[i], slots[j]
			b.At = 2
			if i != j {
				carries(t, unit(old, a), upTo(20, 5), unit(upTo(50, 6), b), upTo(50, 6), list(a.Path), list(b.Path))
				continue
			}
			want := upTo(50, 6)
			copy(want[2:], upTo(21, max(a.Len, 1)))
			carries(t, unit(old, a), upTo(20, 5), unit(upTo(50, 6), b), want, nil, nil)
		}
	}
}

// Where it lies, whether it is kept, what it is for, do not count; nor what else the unit is.
func TestSameElsewhere(t *testing.T) {
	for at := range 5 {
		for place := range 5 {
			for role := api.Role(-1); role < 8; role++ {
				old := unit(upTo(0, 5), api.Slot{Path: "a", Kind: api.Int, At: at, Keep: role%2 == 0, Role: role})
				now := api.Proc{Kind: api.Function, Name: "f", First: upTo(10, 5), Slots: list(one("a", api.Int, place))}
				want := upTo(10, 5)
				want[place] = 20 + at
				carries(t, old, upTo(20, 5), now, want, nil, nil)
				want = upTo(0, 5)
				want[at] = 20 + place
				carries(t, now, upTo(20, 5), old, want, nil, nil)
			}
		}
	}
}

// One element is one word, as no elements are, but another slot.
func TestOneElement(t *testing.T) {
	old := unit(list(0, 0), some("a", api.Int, 0, 1), some("b", api.Int, 1, 0))
	now := unit(list(1, 2), some("b", api.Int, 0, 1), some("a", api.Int, 1, 0))
	carries(t, old, list(7, 8), now, list(1, 2), list("a", "b"), list("b", "a"))
	carries(t, old, list(7, 8), old, list(7, 8), nil, nil)
}

// All elements go over, and none beside them.
func TestElements(t *testing.T) {
	for n := 1; n < 60; n++ {
		old := unit(upTo(0, n+2), some("y", api.Word, 1, n), one("a", api.Int, 0), one("b", api.Int, n+1))
		now := unit(upTo(1000, n+4), some("y", api.Word, 3, n))
		want := append(upTo(1000, 3), upTo(501, n)...)
		carries(t, old, upTo(500, n+2), now, append(want, 1003+n), list("a", "b"), nil)
	}
}

// Of several slots of old that are the same the first one of the list counts, wherever they lie; each one of now has its words.
func TestFirstOfOld(t *testing.T) {
	old := unit(upTo(0, 4), one("a", api.Int, 3), one("a", api.Dint, 2), one("a", api.Int, 0), one("a", api.Dint, 1))
	now := unit(upTo(10, 5), one("a", api.Int, 0), one("a", api.Int, 2), one("a", api.Dint, 4), one("a", api.Int, 1))
	carries(t, old, upTo(20, 4), now, list(23, 23, 23, 13, 22), nil, nil)
	carries(t, old, upTo(20, 4), old, list(23, 22, 22, 23), nil, nil)
	carries(t, now, upTo(20, 5), old, list(20, 24, 24, 20), nil, nil)
}

// Slots of now are written in order: of what lies over something else the last one is seen.
func TestOverOneAnother(t *testing.T) {
	old := unit(upTo(0, 6), some("y", api.Int, 0, 3), some("z", api.Int, 3, 3), one("a", api.Int, 1))
	y, z, a := some("y", api.Int, 0, 3), some("z", api.Int, 1, 3), one("a", api.Int, 1)
	first := upTo(50, 4)
	carries(t, old, upTo(20, 6), unit(first, y, z, a), list(20, 21, 24, 25), nil, nil)
	carries(t, old, upTo(20, 6), unit(first, z, y, a), list(20, 21, 22, 25), nil, nil)
	carries(t, old, upTo(20, 6), unit(first, a, y, z), list(20, 23, 24, 25), nil, nil)
	carries(t, old, upTo(20, 6), unit(first, a, one("c", api.Int, 0), z), list(50, 23, 24, 25), list("y"), list("c"))
}

// Words come out of the old frame, not out of what was written into the new one already.
func TestChangedPlaces(t *testing.T) {
	old := unit(list(0, 0, 0), one("a", api.Int, 0), one("b", api.Int, 1), one("c", api.Int, 2))
	now := unit(list(0, 0, 0), one("a", api.Int, 1), one("b", api.Int, 2), one("c", api.Int, 0))
	carries(t, old, list(7, 8, 9), now, list(9, 7, 8), nil, nil)
	behind := unit(upTo(0, 9), some("y", api.Int, 1, 8))
	carries(t, behind, upTo(20, 9), unit(upTo(50, 9), some("y", api.Int, 0, 8)), append(upTo(21, 8), 58), nil, nil)
	front := unit(upTo(0, 9), some("y", api.Int, 0, 8))
	carries(t, front, upTo(20, 9), unit(upTo(50, 9), some("y", api.Int, 1, 8)), append(list(50), upTo(20, 8)...), nil, nil)
}

// A path stands once for each slot that is lost, or fresh, in the order of the slots.
func TestLostAndFresh(t *testing.T) {
	old := unit(upTo(0, 3), one("c", api.Int, 0), one("a", api.Int, 1), one("c", api.Int, 2), one("b", api.Bool, 0), one("c", api.Bool, 0), some("c", api.Int, 0, 2))
	now := unit(upTo(10, 3), one("d", api.Int, 2), one("a", api.Int, 0), one("b", api.Word, 1), one("d", api.Int, 2), one("b", api.Word, 1), one("b", api.Time, 1))
	carries(t, old, upTo(20, 3), now, list(21, 11, 12), list("c", "c", "b", "c", "c"), list("d", "b", "d", "b", "b"))
	carries(t, now, upTo(20, 3), old, list(0, 20, 2), list("d", "b", "d", "b", "b"), list("c", "c", "b", "c", "c"))
}

// What lies in no slot is as at first, whatever the old frame has there.
func TestBesideSlots(t *testing.T) {
	old := unit(upTo(0, 5), one("a", api.Int, 2))
	carries(t, old, upTo(20, 5), old, list(0, 1, 22, 3, 4), nil, nil)
	carries(t, old, upTo(20, 5), unit(upTo(50, 2), one("a", api.Int, 1)), list(50, 22), nil, nil)
}

// Words go over as they are, whatever the kind; what old's First has is not asked.
func TestAnyWords(t *testing.T) {
	words := []int{math.MinInt, math.MaxInt, -1, 2, 1 << 40, 0}
	for kind := api.None; kind <= api.Time; kind++ {
		p := unit(list(words[5], words[1], words[0]), some("y", kind, 0, 2), one("a", kind, 2))
		for _, w := range words {
			carries(t, p, list(w, 3, -w), p, list(w, 3, -w), nil, nil)
		}
	}
}
