package wires_test

import (
	"reflect"
	"strings"
	"testing"
	"unsafe"

	"plantwright/wires"
)

// every has something in each list that the unit of a diagram can have.
const every = "DIAGRAM d VAR a, b, c, k : INT := 5; m, p : BOOL; t : ton; x : ARRAY[1..2] OF INT; END_VAR PREV k := a; a := b + x[c * 2] - max(-(3), c); PREV b := k; t(in := NOT p, pt := sel(p, T#1s, T#2s), q => m); c := 2; END_DIAGRAM"

// lists goes through all lists of a value.
func lists(v reflect.Value, do func(l reflect.Value)) {
	switch v.Kind() {
	case reflect.Struct:
		for i := range v.NumField() {
			lists(v.Field(i), do)
		}
	case reflect.Slice:
		do(v)
		for i := range v.Len() {
			lists(v.Index(i), do)
		}
	}
}

// texts goes through all texts of a value.
func texts(v reflect.Value, do func(s string)) {
	switch v.Kind() {
	case reflect.Struct:
		for i := range v.NumField() {
			texts(v.Field(i), do)
		}
	case reflect.Slice:
		for i := range v.Len() {
			texts(v.Index(i), do)
		}
	case reflect.String:
		do(v.String())
	}
}

// No list of an answer, nor its spare room, lies where another one's does, of this answer or of another one.
func TestListsApart(t *testing.T) {
	seen := map[unsafe.Pointer]bool{}
	for range 2 {
		u := read(t, every)
		count := 0
		lists(reflect.ValueOf(u), func(l reflect.Value) {
			for i := range l.Cap() {
				at := l.Slice(0, l.Cap()).Index(i).Addr().UnsafePointer()
				if seen[at] {
					t.Error("two lists share memory")
				}
				seen[at] = true
				count++
			}
		})
		if count < 40 {
			t.Error(count)
		}
		kept = append(kept, u)
	}
}

// kept: answers that are still in use, so that no memory is given out again.
var kept []any

// What is written into an answer is not seen in the next one.
func TestAnswersApart(t *testing.T) {
	want := read(t, every)
	spoilt := read(t, every)
	lists(reflect.ValueOf(spoilt), func(l reflect.Value) {
		all := l.Slice(0, l.Cap())
		for i := range all.Len() {
			all.Index(i).SetZero()
		}
	})
	if got := read(t, every); !reflect.DeepEqual(got, want) {
		t.Error("an answer hangs on another one")
	}
}

// No text of an answer lies within the one that was read.
func TestTextsApart(t *testing.T) {
	s := strings.ToLower(every)
	from := uintptr(unsafe.Pointer(unsafe.StringData(s)))
	u, _ := wires.Read(s)
	count := 0
	texts(reflect.ValueOf(u), func(x string) {
		at := uintptr(unsafe.Pointer(unsafe.StringData(x)))
		if x != "" && at >= from && at < from+uintptr(len(s)) {
			t.Errorf("%s lies in the text that was read", x)
		}
		count++
	})
	if count < 40 {
		t.Error(count)
	}
}
