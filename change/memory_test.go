package change_test

import (
	"fmt"
	"math"
	"slices"
	"strings"
	"testing"

	"plantwright/api"
	"plantwright/change"
)

// roomy: the same list, with room behind it that is not nothing.
func roomy[T any](l []T, spare T) []T {
	out := append(slices.Clone(l), slices.Repeat([]T{spare}, 50)...)
	return out[:len(l)]
}

// roomyUnit: the same unit, its lists with such room.
func roomyUnit(p api.Proc) api.Proc {
	p.First = roomy(p.First, 66)
	p.Slots = roomy(p.Slots, one("spare", api.Int, 0))
	p.Text = roomy(p.Text, api.Instr{Do: api.Late})
	return p
}

// whole: all that a list has, its spare room too, as a text.
func whole[T any](l []T) string {
	return fmt.Sprint(len(l), l[:cap(l)])
}

func wholeUnit(p api.Proc) string {
	return fmt.Sprint(p.Kind, p.Name, whole(p.First), whole(p.Slots), whole(p.Text))
}

func wholeAnswer(c api.Carried) string {
	return whole(c.Frame) + whole(c.Lost) + whole(c.Fresh)
}

// spoil writes over all of a list, its spare room too.
func spoil[T any](l []T, with T) {
	l = l[:cap(l)]
	for i := range l {
		l[i] = with
	}
}

func spoilUnit(p api.Proc) {
	spoil(p.First, 77)
	spoil(p.Slots, one("spoilt", api.Word, 1))
	spoil(p.Text, api.Instr{Do: api.Drop})
}

// someUnits: of all kinds, and some that may not be carried.
func someUnits() []api.Proc {
	text := list(api.Instr{Do: api.Load}, api.Instr{Do: api.Store, A: 1})
	return []api.Proc{
		{}, unit([]int{}, []api.Slot{}...), unit(list(1, 2, 3)),
		unit(list(1, 2, 3), one("a", api.Int, 0), some("y", api.Word, 1, 2)),
		unit(list(4, 5, 6, 7), some("y", api.Word, 0, 2), one("b", api.Int, 2), one("a", api.Int, 3)),
		{Kind: api.Block, Name: "k", First: list(8, 9), Slots: list(one("a", api.Int, 1), one("a", api.Int, 0), one("c", api.Int, 0)), Text: text},
		unit(list(1), one("a", api.Int, 1)), unit(list(1), some("a", api.Int, 0, math.MaxInt)), unit(nil, one("a", api.Int, 0)),
	}
}

// tries goes through all of these together, with frames that fit and others.
func tries(try func(old api.Proc, frame []int, now api.Proc)) {
	for _, old := range someUnits() {
		for _, now := range someUnits() {
			try(old, upTo(20, len(old.First)), now)
			try(old, upTo(20, len(old.First)+1), now)
			try(old, nil, now)
		}
	}
}

// tell: what Carry answers.
func tell(old api.Proc, frame []int, now api.Proc) string {
	c, e := change.Carry(old, frame, now)
	return fmt.Sprint(c, e)
}

// What is handed in is not changed, its spare room neither; and what lies there is not looked at.
func TestArgumentsStay(t *testing.T) {
	tries(func(old api.Proc, frame []int, now api.Proc) {
		ro, rf, rn := roomyUnit(old), roomy(frame, 66), roomyUnit(now)
		given := wholeUnit(ro) + whole(rf) + wholeUnit(rn)
		got := tell(ro, rf, rn)
		if wholeUnit(ro)+whole(rf)+wholeUnit(rn) != given {
			t.Fatalf("changed: %v, %v, %v", old, frame, now)
		}
		if got != tell(old, slices.Clip(frame), now) {
			t.Fatalf("spare room counts: %v, %v, %v", old, frame, now)
		}
	})
}

// What is written into an answer, its spare room too, is seen neither in what was handed in nor in another answer nor in its other lists; and what was handed in is not kept.
func TestAnswersAreNew(t *testing.T) {
	tries(func(old api.Proc, frame []int, now api.Proc) {
		old, frame, now = roomyUnit(old), roomy(frame, 66), roomyUnit(now)
		given := wholeUnit(old) + whole(frame) + wholeUnit(now)
		first, _ := change.Carry(old, frame, now)
		second, _ := change.Carry(old, frame, now)
		answer, fresh := wholeAnswer(second), whole(first.Fresh)
		spoil(first.Frame, 77)
		spoil(first.Lost, "spoilt")
		if whole(first.Fresh) != fresh {
			t.Fatalf("%v, %v, %v: two lists share memory", old, frame, now)
		}
		spoil(first.Fresh, "spoilt")
		if wholeUnit(old)+whole(frame)+wholeUnit(now) != given || wholeAnswer(second) != answer {
			t.Fatalf("%v, %v, %v: an answer shares memory", old, frame, now)
		}
		spoilUnit(old)
		spoil(frame, 77)
		spoilUnit(now)
		if wholeAnswer(second) != answer {
			t.Fatalf("%v, %v, %v: a list was kept", old, frame, now)
		}
	})
}

// Lists that are one and the same memory are taken like any others.
func TestOneListTwice(t *testing.T) {
	words := list(7, 8, 9)
	slots := list(one("a", api.Int, 2), one("b", api.Int, 0), one("a", api.Int, 1))
	old := unit(words, slots...)
	carries(t, old, words, old, list(7, 9, 9), nil, nil)
	carries(t, old, words, unit(words, slots[2:]...), list(7, 9, 9), list("b"), nil)
	carries(t, unit(words[:2], slots[1:]...), words[1:], unit(words, slots...), list(8, 9, 9), nil, nil)
	if !slices.Equal(words, list(7, 8, 9)) || slots[0].At != 2 || slots[1].At != 0 || slots[2].At != 1 {
		t.Error(words, slots)
	}
}

// Lists without elements may be nil or not.
func TestEmptyLists(t *testing.T) {
	for _, words := range [][]int{nil, {}} {
		for _, slots := range [][]api.Slot{nil, {}} {
			for _, frame := range [][]int{nil, {}} {
				empty := api.Proc{First: words, Slots: slots}
				carries(t, empty, frame, empty, nil, nil, nil)
				carries(t, empty, frame, unit(list(5), one("a", api.Int, 0)), list(5), nil, list("a"))
				carries(t, unit(list(5), one("a", api.Int, 0)), list(6), empty, nil, list("a"), nil)
				refuses(t, unit(list(5), slots...), frame, empty, api.ErrSize)
				refuses(t, unit(words, one("a", api.Int, 0)), frame, empty, api.ErrCode)
			}
		}
	}
}

// An answer hangs on no call ahead of it.
func TestNothingIsKept(t *testing.T) {
	all := func() string {
		var s strings.Builder
		tries(func(old api.Proc, frame []int, now api.Proc) { s.WriteString(tell(old, frame, now)) })
		return s.String()
	}
	first := all()
	for range 20 {
		if all() != first {
			t.Error("it is not as it was")
		}
	}
}
