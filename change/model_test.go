package change_test

import (
	"math"
	"testing"

	"plantwright/api"
	"plantwright/change"
)

// modelMay: as the chapter says it, each word asked by itself.
func modelMay(p api.Proc) bool {
	if len(p.First) > 20000 || len(p.Slots) > 20000 {
		return false
	}
	for _, s := range p.Slots {
		words := 1
		if s.Len > 0 {
			words = s.Len
		}
		if s.Len < 0 || words > len(p.First) {
			return false
		}
		for i := range words {
			if s.At < 0 || s.At >= len(p.First) || s.At+i >= len(p.First) {
				return false
			}
		}
	}
	return true
}

// modelFind: the first slot of a unit that is the same as this one, if there is any.
func modelFind(p api.Proc, s api.Slot) (api.Slot, bool) {
	for _, x := range p.Slots {
		if x.Path == s.Path && x.Kind == s.Kind && x.Len == s.Len {
			return x, true
		}
	}
	return api.Slot{}, false
}

func modelCarry(old api.Proc, frame []int, now api.Proc) (api.Carried, api.Errno) {
	if !modelMay(old) {
		return api.Carried{}, api.ErrCode
	}
	if len(frame) != len(old.First) {
		return api.Carried{}, api.ErrSize
	}
	if !modelMay(now) {
		return api.Carried{}, api.ErrCode
	}
	c := api.Carried{}
	c.Frame = append(c.Frame, now.First...)
	for _, s := range now.Slots {
		x, ok := modelFind(old, s)
		if !ok {
			c.Fresh = append(c.Fresh, s.Path)
			continue
		}
		c.Frame[s.At] = frame[x.At]
		for i := 1; i < s.Len; i++ {
			c.Frame[s.At+i] = frame[x.At+i]
		}
	}
	for _, s := range old.Slots {
		if _, ok := modelFind(now, s); !ok {
			c.Lost = append(c.Lost, s.Path)
		}
	}
	return c, api.OK
}

// drawn: a unit that may be carried.
func drawn(d *die) api.Proc {
	p := unit(upTo(100*d.n(9), d.n(10)))
	if len(p.First) == 0 {
		return p
	}
	for range d.n(8) {
		s := api.Slot{Path: pick(d, "a", "b", "t.q", "t.%run"), Kind: api.Kind(1 + d.n(2)), Keep: d.n(2) == 0, Role: api.Role(1 + d.n(5))}
		s.At = d.n(len(p.First))
		s.Len = pick(d, 0, 0, 0, 1, 2, 3)
		if max(s.Len, 1) > len(p.First)-s.At {
			s.Len = 0
		}
		p.Slots = append(p.Slots, s)
	}
	return p
}

// spoilt: the same unit, with something changed, which may be wrong now.
func spoilt(d *die, p api.Proc) api.Proc {
	for range 1 + d.n(2) {
		odd := pick(d, -1, 0, 1, 2, 5, 9, 10, math.MinInt, math.MaxInt, math.MaxInt-1, 20000)
		switch {
		case d.n(4) == 0:
			p.First = upTo(0, d.n(4))
		case len(p.Slots) == 0:
			p.Slots = append(p.Slots, some("a", api.Int, odd, d.n(3)))
		case d.n(2) == 0:
			p.Slots[d.n(len(p.Slots))].At = odd
		default:
			p.Slots[d.n(len(p.Slots))].Len = odd
		}
	}
	return p
}

// Drawn units, right and wrong ones: all that Carry tells is what the chapter says.
func TestModel(t *testing.T) {
	d := die(12)
	seen := map[api.Errno]int{}
	over, lost, fresh := 0, 0, 0
	for range 60000 {
		old, now := drawn(&d), drawn(&d)
		frame := upTo(5000, len(old.First))
		if d.n(6) == 0 {
			old = spoilt(&d, old)
		}
		if d.n(6) == 0 {
			now = spoilt(&d, now)
		}
		if d.n(12) == 0 {
			frame = upTo(5000, d.n(10))
		}
		want, code := modelCarry(old, frame, now)
		if got, e := change.Carry(old, frame, now); e != code || !alike(got, want) {
			t.Fatalf("Carry(%+v, %v, %+v): %v, %v, not %v, %v", old, frame, now, got, e, want, code)
		}
		seen[code]++
		over, lost, fresh = over+len(now.Slots)-len(want.Fresh), lost+len(want.Lost), fresh+len(want.Fresh)
	}
	if min(seen[api.OK], seen[api.ErrCode], seen[api.ErrSize]) < 2000 || len(seen) != 3 || min(over, lost, fresh) < 10000 {
		t.Error("too few of each kind: ", seen, over, lost, fresh)
	}
}
