package ladder_test

import (
	"reflect"
	"strings"
	"testing"
	"unsafe"

	"plantwright/ladder"
)

// every has something in each list that the unit of a ladder can have.
const every = "LADDER l VAR a, b : BOOL; t : ton; x : ARRAY[1..2] OF INT; k : INT := 5; END_VAR RUNG ([>a], [/b] [t.q]) [<t.q] => a, /b, +a, -b, >a, t(in, pt := sel(a, x[1 + 2], -(3)), q => b); RUNG [a] [b] => a; END_LADDER"

// lists goes through all lists of a value.
func lists(v reflect.Value, do func(l reflect.Value)) {
	switch v.Kind() {
	case reflect.Struct:
		for i := range v.NumField() {
			lists(v.Field(i), do)
		}
	case reflect.Slice:
		do(v)
		for i := range v.Len() {
			lists(v.Index(i), do)
		}
	}
}

// texts goes through all texts of a value.
func texts(v reflect.Value, do func(s string)) {
	switch v.Kind() {
	case reflect.Struct:
		for i := range v.NumField() {
			texts(v.Field(i), do)
		}
	case reflect.Slice:
		for i := range v.Len() {
			texts(v.Index(i), do)
		}
	case reflect.String:
		do(v.String())
	}
}

// No list of an answer, nor its spare room, lies where another one's does, of this answer or of another one.
func TestListsApart(t *testing.T) {
	seen := map[unsafe.Pointer]bool{}
	for range 2 {
		u := read(t, every)
		count := 0
		lists(reflect.ValueOf(u), func(l reflect.Value) {
			for i := range l.Cap() {
				at := l.Slice(0, l.Cap()).Index(i).Addr().UnsafePointer()
				if seen[at] {
					t.Error("two lists share memory")
				}
				seen[at] = true
				count++
			}
		})
		if count < 40 {
			t.Error(count)
		}
		kept = append(kept, u)
	}
}

// kept: answers that are still in use, so that no memory is given out again.
var kept []any

// What is written into an answer is not seen in the next one.
func TestAnswersApart(t *testing.T) {
	want := read(t, every)
	spoilt := read(t, every)
	lists(reflect.ValueOf(spoilt), func(l reflect.Value) {
		all := l.Slice(0, l.Cap())
		for i := range all.Len() {
			all.Index(i).SetZero()
		}
	})
	if got := read(t, every); !reflect.DeepEqual(got, want) {
		t.Error("an answer hangs on another one")
	}
}

// No text of an answer lies within the one that was read.
func TestTextsApart(t *testing.T) {
	s := strings.ToLower(every)
	from := uintptr(unsafe.Pointer(unsafe.StringData(s)))
	u, _ := ladder.Read(s)
	count := 0
	texts(reflect.ValueOf(u), func(x string) {
		at := uintptr(unsafe.Pointer(unsafe.StringData(x)))
		if x != "" && at >= from && at < from+uintptr(len(s)) {
			t.Errorf("%s lies in the text that was read", x)
		}
		count++
	})
	if count < 40 {
		t.Error(count)
	}
}
