package plant_test

import (
	"math"
	"reflect"
	"testing"

	"plantwright/api"
	"plantwright/plant"
)

// wild writes something strange over a place of a value, which is chosen on the way down.
func wild(d *die, v reflect.Value) {
	switch v.Kind() {
	case reflect.Struct:
		wild(d, v.Field(d.n(v.NumField())))
	case reflect.Slice:
		wildList(d, v)
	case reflect.String:
		v.SetString(pick(d, "", "run", "go", "main", "speed", "\xff\x00", "PROGRAM p END_PROGRAM", v.String()+"x", "LADDER l END_LADDER"))
	case reflect.Bool:
		v.SetBool(!v.Bool())
	case reflect.Uint8:
		v.SetUint(uint64(d.n(256)))
	case reflect.Int:
		v.SetInt(pick(d, v.Int()+1, v.Int()-1, 0, 1, -1, 2, 3, 255, 256, 1000, 1001, 65536, 1<<32, -1<<32, math.MaxInt64, math.MinInt64))
	}
}

// wildList: an element is strange, or left out, or there twice, or the list is empty or very long.
func wildList(d *die, v reflect.Value) {
	if v.Len() == 0 {
		v.Set(reflect.MakeSlice(v.Type(), 1+d.n(3), 3))
		return
	}
	i := d.n(v.Len())
	switch d.n(12) {
	case 0:
		v.Set(reflect.Zero(v.Type()))
	case 1:
		v.Set(v.Slice(0, i))
	case 2:
		v.Set(v.Slice(i, v.Len()))
	case 3:
		v.Set(reflect.Append(v.Slice3(0, v.Len(), v.Len()), v.Index(i)))
	case 4:
		v.Set(reflect.MakeSlice(v.Type(), 5000, 5000))
	case 5:
		x := reflect.New(v.Type().Elem()).Elem()
		x.Set(v.Index(i))
		v.Index(i).Set(v.Index(0))
		v.Index(0).Set(x)
	default:
		wild(d, v.Index(i))
	}
}

// Whatever is handed in, each call ends, and none panics; with an error nothing else is told, and what is told without one is a state.
func TestWildInput(t *testing.T) {
	d := die(31)
	codes := map[api.Errno]int{}
	for range 400 {
		g := given{Plan: drawnPlan(&d), Came: [][]byte{frame(4, 1, 1, 2, 3, 4), frame(7, 5, 1, 1, 1, 0)}, Key: true}
		g.State = begun(t, g.Plan)
		g.Words = saved(t, g.Plan, g.State)
		g.Next = drawnPlan(&d)
		g = twin(g)
		for range 1 + d.n(3) {
			wild(&d, reflect.ValueOf(&g).Elem())
		}
		a := ask(g)
		if a.Fault.Code != api.OK {
			none(t, "Build", a.Built, a.Fault.Code, a.Fault.Code)
		}
		for i, s := range []api.State{a.Begun, a.Restored, a.Ticked.State} {
			told(t, g.Plan, s, []api.Errno{a.Codes[0], a.Codes[2], a.Ticked.Code}[i])
		}
		told(t, g.Next, a.Changed, a.Codes[3])
		codes[a.Fault.Code]++
		codes[a.Ticked.Code]++
		codes[a.Codes[2]]++
	}
	for _, e := range []api.Errno{api.OK, api.ErrText, api.ErrRange, api.ErrSize, api.ErrName, api.ErrTwice, api.ErrPlan, api.ErrState} {
		if codes[e] == 0 {
			t.Error("none of", e, codes)
		}
	}
}

// told: a state without an error, or an error without a state.
func told(t *testing.T, p api.Plan, s api.State, e api.Errno) {
	t.Helper()
	if e != api.OK {
		none(t, "state", s, e, e)
		return
	}
	if _, e := plant.Save(p, s); e != api.OK {
		t.Fatalf("no state: %s", brief(s))
	}
}
