package plant_test

import (
	"fmt"
	"math"
	"slices"
	"testing"

	"plantwright/api"
	"plantwright/plant"
)

// saved: what is kept.
func saved(t *testing.T, p api.Plan, s api.State) []int {
	t.Helper()
	words, e := plant.Save(p, s)
	if e != api.OK {
		t.Fatalf("Save of %s: %v", brief(s), e)
	}
	return words
}

// restored: a state into which words were put.
func restored(t *testing.T, p api.Plan, s api.State, words ...int) api.State {
	t.Helper()
	got, e := plant.Restore(p, s, words)
	if e != api.OK {
		t.Fatalf("Restore of %v: %v", words, e)
	}
	return got
}

// The document's example.
func TestKeepExample(t *testing.T) {
	p := small()
	s := ticked(t, p, begun(t, p), false, frame(4, 9, 1, 0)).State
	alike(t, "Save", saved(t, p, s), list(1))
	first := begun(t, p)
	alike(t, "Restore", restored(t, p, first, 1), with(first, func(s *api.State) { s.Frames[0][2] = 1 }))
	got, e := plant.Restore(p, first, list(1, 2))
	none(t, "Restore", got, e, api.ErrSize)
}

// The words of all programs, in the code's order, and of their slots, in order: of those that are kept, within instances too.
func TestSave(t *testing.T) {
	p := large()
	alike(t, "at first", saved(t, p, begun(t, p)), []int{
		100, 4294967295, 4294967295, 4294967295, 0, // runs, last, open
		0, 0, 5, 0, 0, 0, 0, 0, 0, 0, // all of kept
		5,           // g.total
		1000, 61680, // long, bits
		0, // was
	})
	s := begun(t, p)
	var want []int
	for i, proc := range taken(t, p).Code.Procs {
		for k := range s.Frames[i] {
			s.Frames[i][k] = 1000*i + k
		}
		if proc.Kind != api.Program {
			continue
		}
		for _, slot := range proc.Slots {
			for k := range max(slot.Len, 1) {
				if slot.Keep {
					want = append(want, 1000*i+slot.At+k)
				}
			}
		}
	}
	alike(t, "numbered", saved(t, p, s), want)
}

// Words are kept modulo 2^32, whatever they are.
func TestSaveModulo(t *testing.T) {
	p := small()
	for _, x := range [][2]int{
		{0, 0}, {1, 1}, {-1, 4294967295}, {-32768, 4294934528}, {4294967295, 4294967295}, {4294967296, 0}, {4294967297, 1}, {-4294967296, 0}, {-4294967297, 4294967295}, {math.MinInt, 0}, {math.MaxInt, 4294967295}, {1<<40 + 3, 3},
	} {
		s := with(begun(t, p), func(s *api.State) { s.Frames[0] = list(x[0]+5, x[0]+6, x[0]) })
		alike(t, fmt.Sprint(x[0]), saved(t, p, s), list(x[1]))
	}
}

// A plan in which nothing is kept.
func TestKeepNothing(t *testing.T) {
	p := small()
	p.Text = "FUNCTION_BLOCK b VAR RETAIN x : INT; END_VAR END_FUNCTION_BLOCK PROGRAM p VAR a : INT; END_VAR END_PROGRAM"
	s := begun(t, p)
	alike(t, "Save", saved(t, p, s), []int(nil))
	alike(t, "Restore", restored(t, p, s), s)
	got, e := plant.Restore(p, s, []int{})
	alike(t, "Restore", []any{got, e}, []any{s, api.OK})
	got, e = plant.Restore(p, s, list(0))
	none(t, "Restore", got, e, api.ErrSize)
}

// As many words as are kept, each from 0 to MaxNumber; that there are too many or too few is told first.
func TestRestoreErrors(t *testing.T) {
	p := large()
	s := heard(t, p)
	right := saved(t, p, s)
	for _, words := range [][]int{nil, {}, right[1:], right[:len(right)-1], append(slices.Clone(right), 0), slices.Repeat(list(-1), len(right)+1), slices.Repeat(list(-1), 3), make([]int, 100000)} {
		got, e := plant.Restore(p, s, words)
		none(t, "Restore", got, e, api.ErrSize)
	}
	for i := range right {
		for _, n := range []int{-1, api.MaxNumber + 1, math.MinInt, math.MaxInt} {
			words := slices.Clone(right)
			words[i] = n
			got, e := plant.Restore(p, s, words)
			none(t, "Restore", got, e, api.ErrRange)
		}
		for _, n := range []int{0, api.MaxNumber} {
			words := slices.Clone(right)
			words[i] = n
			restored(t, p, s, words...)
		}
	}
}

// Each word is wrapped into its slot's kind.
func TestRestoreWraps(t *testing.T) {
	p := large()
	s := heard(t, p)
	n := len(saved(t, p, s))
	for _, x := range []struct{ word, whether, small, dint, word16, long int }{
		{0, 0, 0, 0, 0, 0}, {1, 1, 1, 1, 1, 1}, {2, 0, 2, 2, 2, 2}, {65535, 1, -1, 65535, 65535, 65535}, {32768, 0, -32768, 32768, 32768, 32768},
		{4294967295, 1, -1, -1, 65535, 4294967295}, {2147483648, 0, 0, -2147483648, 0, 2147483648}, {65537, 1, 1, 65537, 1, 65537},
	} {
		got := restored(t, p, s, slices.Repeat(list(x.word), n)...)
		for path, want := range map[string][]int{
			"runs": {x.small}, "last": {x.dint, x.dint, x.dint}, "open": {x.whether}, "kept.total": {x.dint}, "kept.in": {x.whether}, "kept.c.%count": {x.small}, "g.total": {x.dint},
		} {
			alike(t, fmt.Sprint(path, x.word), variable(t, p, got, "main", path), want)
		}
		alike(t, "long", variable(t, p, got, "side", "long"), list(x.long))
		alike(t, "bits", variable(t, p, got, "side", "bits"), list(x.word16))
		alike(t, "was", variable(t, p, got, "lamps", "was"), list(x.whether))
	}
}

// All else is as it was.
func TestRestoreLeavesTheRest(t *testing.T) {
	p := large()
	s := heard(t, p)
	for range 5 {
		s = ticked(t, p, s, true, frame(4, s.Now*3, 1, 9, 9, 9)).State
	}
	alike(t, "its own words", restored(t, p, s, saved(t, p, s)...), s)
	other := heard(t, p)
	got := restored(t, p, other, saved(t, p, s)...)
	alike(t, "Save", saved(t, p, got), saved(t, p, s))
	for i, proc := range taken(t, p).Code.Procs {
		if proc.Kind != api.Program {
			continue
		}
		for _, slot := range proc.Slots {
			from := other
			if slot.Keep {
				from = s
			}
			end := slot.At + max(slot.Len, 1)
			alike(t, proc.Name+" "+slot.Path, got.Frames[i][slot.At:end], from.Frames[i][slot.At:end])
		}
	}
	got.Frames = other.Frames
	alike(t, "the rest", got, other)
}
