package code_test

import (
	"fmt"
	"reflect"
	"testing"

	"plantwright/api"
	"plantwright/code"
)

// roomy: the same list, and those within, with three more places, which are not nothing, behind each.
func roomy[T any](l []T) []T {
	v := reflect.New(reflect.TypeOf(l)).Elem()
	v.Set(reflect.ValueOf(l))
	roomIn(v)
	return v.Interface().([]T)
}

// roomIn gives every list within a value more room.
func roomIn(v reflect.Value) {
	switch v.Kind() {
	case reflect.Struct:
		for i := range v.NumField() {
			roomIn(v.Field(i))
		}
	case reflect.Slice:
		n := v.Len()
		out := reflect.MakeSlice(v.Type(), n+3, n+3)
		reflect.Copy(out, v)
		for i := range n {
			roomIn(out.Index(i))
		}
		for i := n; i < n+3; i++ {
			mark(out.Index(i))
		}
		v.Set(out.Slice(0, n))
	}
}

// mark puts something into all numbers and texts of a value, behind the ends of its lists too.
func mark(v reflect.Value) {
	switch v.Kind() {
	case reflect.Struct:
		for i := range v.NumField() {
			mark(v.Field(i))
		}
	case reflect.Slice:
		if v.Cap() > 0 {
			v = v.Slice(0, v.Cap())
		}
		for i := range v.Len() {
			mark(v.Index(i))
		}
	case reflect.Array:
		for i := range v.Len() {
			mark(v.Index(i))
		}
	case reflect.Int:
		v.SetInt(424242)
	case reflect.String:
		v.SetString("spare")
	case reflect.Bool:
		v.SetBool(true)
	}
}

// all: all that is in a value, behind the ends of its lists too, as a text.
func all(v reflect.Value) string {
	switch v.Kind() {
	case reflect.Struct:
		s := "{"
		for i := range v.NumField() {
			s += all(v.Field(i)) + " "
		}
		return s + "}"
	case reflect.Slice:
		s := fmt.Sprintf("%d[", v.Len())
		if v.Cap() > 0 {
			v = v.Slice(0, v.Cap())
		}
		for i := range v.Len() {
			s += all(v.Index(i)) + " "
		}
		return s + "]"
	}
	return fmt.Sprint(v.Interface())
}

func allOf(x any) string {
	return all(reflect.ValueOf(x))
}

// every has something in each list that a unit can have.
const every = `IF b THEN a := -(5); ELSIF a < 3 THEN y[a + 1] := max(3, f(r, b)); ELSE t(in := NOT b, pt := T#1s, q => b); END_IF;
CASE a OF 1, 3..4: d := abs(-d); k(up := g(1), n => a); RETURN; 7: d := 1; ELSE RETURN; END_CASE; REPEAT CONTINUE; UNTIL k.m OR b MAX 3 END_REPEAT; FOR a := 1 TO 3 DO WHILE a < 3 MAX 2 DO EXIT; END_WHILE; END_FOR;`

// What is handed in is not changed, its spare room neither, whether there is a fault or not.
func TestArgumentsStay(t *testing.T) {
	for _, text := range []string{program(every), program(every + "EXIT;")} {
		us, gs := roomy(parsed(t, text)), roomy(globals)
		units, shared := allOf(us), allOf(gs)
		code.Compile(us, gs)
		if allOf(us) != units || allOf(gs) != shared {
			t.Error("Compile changed it")
		}
	}
	c := compiled(t, program(every))
	c.Procs = roomy(c.Procs)
	text, frame := allOf(c), roomy(c.Procs[3].First)
	words := allOf(frame)
	code.Verify(c)
	if r := code.Run(c, 3, frame, 5); r.Code != api.OK || r.Steps == 0 {
		t.Error(r)
	}
	if allOf(c) != text || allOf(frame) != words {
		t.Error("Verify or Run changed it")
	}
}

// apart: does no list lie where another one does?
func apart(t *testing.T, v reflect.Value, seen map[uintptr]bool) {
	t.Helper()
	switch v.Kind() {
	case reflect.Struct:
		for i := range v.NumField() {
			apart(t, v.Field(i), seen)
		}
	case reflect.Slice:
		for i := range v.Cap() {
			x := v.Slice(0, v.Cap()).Index(i)
			at := x.Addr().Pointer()
			if seen[at] {
				t.Error("two lists share memory")
			}
			seen[at] = true
		}
		for i := range v.Len() {
			apart(t, v.Index(i), seen)
		}
	}
}

// What comes out shares no memory with what was handed in, nor with another answer, nor one list of it with another.
func TestAnswersAreNew(t *testing.T) {
	us, gs := roomy(parsed(t, program(every))), roomy(globals)
	units, shared := allOf(us), allOf(gs)
	first, f := code.Compile(us, gs)
	second, _ := code.Compile(us, gs)
	if f != (api.Fault{}) {
		t.Fatal(f)
	}
	answer := allOf(second)
	mark(reflect.ValueOf(first.Procs))
	if allOf(us) != units || allOf(gs) != shared || allOf(second) != answer {
		t.Error("the code shares memory")
	}
	seen := map[uintptr]bool{}
	apart(t, reflect.ValueOf(second.Procs), seen)
	if len(seen) < 150 {
		t.Error(len(seen))
	}
	answer = allOf(second) // the bounds and the frame behind a run are new, too
	frame := second.Procs[3].First
	b1, _ := code.Verify(second)
	b2, _ := code.Verify(second)
	bounds := allOf(b2)
	r1, r2 := code.Run(second, 3, frame, 5), code.Run(second, 3, frame, 5)
	ran := allOf(r2.Frame)
	mark(reflect.ValueOf(b1))
	mark(reflect.ValueOf(r1.Frame))
	if allOf(b2) != bounds || allOf(r2.Frame) != ran || allOf(second) != answer {
		t.Error("bounds or a frame share memory")
	}
}

// Units that share their lists are answered as those that do not.
func TestSharedLists(t *testing.T) {
	one := []api.Expr{{Form: api.Lit, N: 1}}
	u := api.Unit{Kind: api.Program, Name: "p",
		Vars: []api.Var{{Name: "a", Role: api.Own, Kind: api.Int}, {Name: "w", Role: api.Own, Kind: api.Word}},
		Body: []api.Stmt{{Verb: api.Set, Name: "a", E: one}, {Verb: api.Set, Name: "w", E: one}},
	}
	c, f := code.Compile([]api.Unit{u}, nil)
	if f != (api.Fault{}) {
		t.Fatal(f)
	}
	same(t, "shared", c.Procs[0].Text, "Push 1, Store 0, Push 1, Store 1")
}
