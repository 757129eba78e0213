package change_test

import (
	"fmt"
	"math"
	"slices"
	"testing"

	"plantwright/api"
	"plantwright/change"
)

// die gives numbers that look drawn, the same each time.
type die uint64

func (d *die) n(most int) int {
	*d = *d*6364136223846793005 + 1442695040888963407
	return int(uint64(*d>>33) % uint64(most))
}

func pick[T any](d *die, l ...T) T {
	return l[d.n(len(l))]
}

// Numbers that are no place and no number of words in any frame. Cut to fewer bits, some of them would be.
var far = []int{
	-1, -2, -3, -256, -1 << 32, math.MinInt, math.MinInt + 1, math.MinInt + 2, 1 << 16, 1<<16 + 1, 1 << 32, 1<<32 + 1,
	math.MaxInt, math.MaxInt - 1, math.MaxInt - 2, api.MaxFrame + 1,
}

// one: a slot of one word; some: of so many elements.
func one(path string, kind api.Kind, at int) api.Slot {
	return api.Slot{Path: path, Kind: kind, At: at}
}

func some(path string, kind api.Kind, at, elements int) api.Slot {
	return api.Slot{Path: path, Kind: kind, At: at, Len: elements}
}

// list: words, or paths.
func list[T any](l ...T) []T {
	return l
}

// unit: what begins with these words, and has these slots.
func unit(first []int, slots ...api.Slot) api.Proc {
	return api.Proc{Kind: api.Program, Name: "p", First: first, Slots: slots}
}

// upTo: so many numbers, from the first one on.
func upTo(from, n int) []int {
	l := make([]int, n)
	for i := range l {
		l[i] = from + i
	}
	return l
}

// with: a unit of which something is other than it was.
func with(p api.Proc, alter func(*api.Proc)) api.Proc {
	p = twin(p)
	alter(&p)
	return p
}

// twin: the same unit, of other memory.
func twin(p api.Proc) api.Proc {
	p.First, p.Slots, p.Text = slices.Clone(p.First), slices.Clone(p.Slots), slices.Clone(p.Text)
	return p
}

// alike: is the same carried over? A list without elements may be nil or not.
func alike(a, b api.Carried) bool {
	return slices.Equal(a.Frame, b.Frame) && slices.Equal(a.Lost, b.Lost) && slices.Equal(a.Fresh, b.Fresh)
}

// brief: something as a text, cut where it is very long.
func brief(x any) string {
	s := fmt.Sprintf("%+v", x)
	if len(s) > 1000 {
		return s[:1000] + " .."
	}
	return s
}

// carries: does Carry tell this frame, and these paths?
func carries(t *testing.T, old api.Proc, frame []int, now api.Proc, want []int, lost, fresh []string) {
	t.Helper()
	got, e := change.Carry(old, frame, now)
	if e != api.OK || !alike(got, api.Carried{Frame: want, Lost: lost, Fresh: fresh}) {
		t.Fatalf("Carry(%v, %v, %v): %v, %v, not %v, %v, %v", brief(old), brief(frame), brief(now), brief(got), e, brief(want), brief(lost), brief(fresh))
	}
}

// refuses: does Carry tell this error, and nothing besides?
func refuses(t *testing.T, old api.Proc, frame []int, now api.Proc, want api.Errno) {
	t.Helper()
	if got, e := change.Carry(old, frame, now); e != want || !alike(got, api.Carried{}) {
		t.Fatalf("Carry(%v, %v, %v): %v, %v, not %v", brief(old), brief(frame), brief(now), brief(got), e, want)
	}
}

// good: may a unit be carried, over to another one and from there?
func good(t *testing.T, p api.Proc) {
	t.Helper()
	plain := unit(list(5))
	if _, e := change.Carry(p, make([]int, len(p.First)), plain); e != api.OK {
		t.Fatalf("%v may not be carried over: %v", brief(p), e)
	}
	if _, e := change.Carry(plain, list(6), p); e != api.OK {
		t.Fatalf("nothing may be carried over to %v: %v", brief(p), e)
	}
}

// bad: is a unit refused, wherever it stands?
func bad(t *testing.T, p api.Proc) {
	t.Helper()
	plain, frame := unit(list(5)), make([]int, len(p.First))
	refuses(t, p, frame, plain, api.ErrCode)
	refuses(t, plain, list(6), p, api.ErrCode)
	refuses(t, p, frame, p, api.ErrCode)
}
