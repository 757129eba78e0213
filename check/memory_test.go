package check_test

import (
	"fmt"
	"reflect"
	"testing"

	"plantwright/api"
	"plantwright/check"
)

// roomy: the tree with three more places, which are not nothing, behind each list.
func roomy[T any](l []T) []T {
	out := make([]T, len(l), len(l)+3)
	copy(out, l)
	for i := range out {
		roomIn(reflect.ValueOf(&out[i]).Elem())
	}
	for i := len(l); i < cap(out); i++ {
		mark(reflect.ValueOf(&out[:cap(out)][i]).Elem())
	}
	return out
}

// roomIn gives every list within a value more room.
func roomIn(v reflect.Value) {
	switch v.Kind() {
	case reflect.Struct:
		for i := range v.NumField() {
			roomIn(v.Field(i))
		}
	case reflect.Slice:
		n := v.Len()
		out := reflect.MakeSlice(v.Type(), n+3, n+3)
		reflect.Copy(out, v)
		for i := range n {
			roomIn(out.Index(i))
		}
		for i := n; i < n+3; i++ {
			mark(out.Index(i))
		}
		v.Set(out.Slice(0, n))
	}
}

// mark puts something into all numbers and texts of a value.
func mark(v reflect.Value) {
	switch v.Kind() {
	case reflect.Struct:
		for i := range v.NumField() {
			mark(v.Field(i))
		}
	case reflect.Array:
		for i := range v.Len() {
			mark(v.Index(i))
		}
	case reflect.Int:
		v.SetInt(424242)
	case reflect.String:
		v.SetString("spare")
	case reflect.Bool:
		v.SetBool(true)
	}
}

// whole: all that is in a value, behind the ends of its lists too, as a text.
func whole(v reflect.Value) string {
	switch v.Kind() {
	case reflect.Struct:
		s := "{"
		for i := range v.NumField() {
			s += whole(v.Field(i)) + " "
		}
		return s + "}"
	case reflect.Slice:
		s := fmt.Sprintf("%d[", v.Len())
		if v.Cap() > 0 {
			v = v.Slice(0, v.Cap())
		}
		for i := range v.Len() {
			s += whole(v.Index(i)) + " "
		}
		return s + "]"
	}
	return fmt.Sprint(v.Interface())
}

// spoil writes into all of a value, behind the ends of its lists too.
func spoil(v reflect.Value) {
	switch v.Kind() {
	case reflect.Struct:
		for i := range v.NumField() {
			spoil(v.Field(i))
		}
		return
	case reflect.Slice:
		if v.Cap() > 0 {
			v = v.Slice(0, v.Cap())
		}
		for i := range v.Len() {
			spoil(v.Index(i))
		}
		return
	}
	mark(v)
}

// every has something in each list that a unit can have.
const every = `IF b THEN a := -(5); ELSIF a < 3 THEN y[a + 1] := max(3, k); ELSE t(in := NOT b, pt := T#1s, q => b); END_IF;
CASE a OF 1, 3..4: d := abs(-d) + yd[1]; RETURN; 7: d := 1; ELSE RETURN; END_CASE; REPEAT CONTINUE; UNTIL u.f OR b MAX 3 END_REPEAT; FOR a := 1 TO 3 DO WHILE a < 3 MAX 2 DO EXIT; END_WHILE; END_FOR;`

// What is handed in is not changed, its spare room neither, whether there is a fault or not.
func TestArgumentsStay(t *testing.T) {
	for _, text := range []string{program(every), program(every + "EXIT;")} {
		us, gs := roomy(parsed(t, text)), roomy(globals())
		units, shared := whole(reflect.ValueOf(us)), whole(reflect.ValueOf(gs))
		check.Check(us, gs)
		if whole(reflect.ValueOf(us)) != units || whole(reflect.ValueOf(gs)) != shared {
			t.Error("changed")
		}
	}
}

// What comes out shares no memory with what was handed in, nor with another answer, nor one list of it with another.
func TestAnswersAreNew(t *testing.T) {
	us, gs := roomy(parsed(t, program(every))), roomy(globals())
	units, shared := whole(reflect.ValueOf(us)), whole(reflect.ValueOf(gs))
	first, f := check.Check(us, gs)
	second, _ := check.Check(us, gs)
	if f != (api.Fault{}) {
		t.Fatal(f)
	}
	answer := whole(reflect.ValueOf(second))
	spoil(reflect.ValueOf(first))
	if whole(reflect.ValueOf(us)) != units || whole(reflect.ValueOf(gs)) != shared {
		t.Error("it shares memory with what was handed in")
	}
	if whole(reflect.ValueOf(second)) != answer {
		t.Error("it shares memory with another answer")
	}
	seen := map[uintptr]bool{}
	apart(t, reflect.ValueOf(second), seen)
	if len(seen) < 30 {
		t.Error(len(seen))
	}
}

// apart: does no list lie where another one does?
func apart(t *testing.T, v reflect.Value, seen map[uintptr]bool) {
	t.Helper()
	switch v.Kind() {
	case reflect.Struct:
		for i := range v.NumField() {
			apart(t, v.Field(i), seen)
		}
	case reflect.Slice:
		for i := range v.Cap() {
			at := v.Slice(0, v.Cap()).Index(i).Addr().Pointer()
			if seen[at] {
				t.Error("two lists share memory")
			}
			seen[at] = true
		}
		for i := range v.Len() {
			apart(t, v.Index(i), seen)
		}
	}
}

// Units that share their lists are answered as those that do not.
func TestSharedLists(t *testing.T) {
	one := []api.Expr{{Form: api.Lit, N: 1}}
	lists := func(a, b []api.Expr) []api.Unit {
		return []api.Unit{{Kind: api.Program, Name: "p",
			Vars: []api.Var{{Name: "a", Role: api.Own, Kind: api.Int}, {Name: "w", Role: api.Own, Kind: api.Word}},
			Body: []api.Stmt{{Verb: api.Set, Name: "a", E: a}, {Verb: api.Set, Name: "w", E: b}},
		}}
	}
	got := accepted(t, lists(one, one))
	if a, w := got[0].Body[0].E[0].Kind, got[0].Body[1].E[0].Kind; a != api.Int || w != api.Word {
		t.Error(a, w)
	}
}
