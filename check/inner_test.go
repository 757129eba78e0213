package check

import (
	"errors"
	"testing"

	"plantwright/api"
)

// What is recovered is told apart: nothing, a fault that is whole, a flaw of the unit at its place, and anything else, which must not come out as a panic.
func TestFaultOf(t *testing.T) {
	for _, x := range []struct {
		given any
		want  api.Fault
	}{
		{nil, api.Fault{}},
		{api.Fault{Code: api.ErrPlan, Unit: 1, At: 2}, api.Fault{Code: api.ErrPlan, Unit: 1, At: 2}},
		{flaw{code: api.ErrName, at: 5}, api.Fault{Code: api.ErrName, Unit: 7, At: 5}},
		{errors.New("index out of range"), api.Fault{Code: api.ErrText, Unit: 7}},
		{"lost", api.Fault{Code: api.ErrText, Unit: 7}},
	} {
		if got := faultOf(x.given, 7); got != x.want {
			t.Errorf("%v: %v, not %v", x.given, got, x.want)
		}
	}
}

// A fresh list has memory of its own, behind its end too.
func TestFresh(t *testing.T) {
	room := []int{1, 2, 3, 4}
	l := fresh(room[:2])
	l[0] = 9
	_ = append(l, 9, 9)
	if room[0] != 1 || room[2] != 3 || room[3] != 4 {
		t.Error(room)
	}
	if empty := fresh(room[:0]); empty != nil {
		t.Error(empty)
	}
}
