package bus_test

import (
	"fmt"
	"slices"
	"testing"

	"plantwright/api"
	"plantwright/bus"
)

// roomy: the same list, with room behind it that is not nothing.
func roomy[T any](l []T, spare T) []T {
	out := append(slices.Clone(l), slices.Repeat([]T{spare}, 50)...)
	return out[:len(l)]
}

// whole: all that a list has, its spare room too, as a text.
func whole[T any](l []T) string {
	return fmt.Sprint(len(l), l[:cap(l)])
}

// spoil writes over all of a list, its spare room too.
func spoil[T any](l []T, with T) {
	l = l[:cap(l)]
	for i := range l {
		l[i] = with
	}
}

// roomyLink: the same link, its lists with such room.
func roomyLink(l api.Link) api.Link {
	l.Safe, l.Words = roomy(l.Safe, 99), roomy(l.Words, 99)
	return l
}

func wholeLink(l api.Link) string {
	return whole(l.Safe) + whole(l.Words) + fmt.Sprint(l.Station, l.Watch, l.Seq, l.Age, l.Fresh)
}

// someLinks: links of all kinds: calm ones, others that are at their beginning or at their end, and some that could not be.
func someLinks() []api.Link {
	return []api.Link{
		calm(), heard(), with(heard(), func(l *api.Link) { l.Age = 0 }), with(heard(), func(l *api.Link) { l.Age = 3 }),
		{Station: 3, Watch: 1}, {Station: 3, Watch: 1, Safe: []int{}, Words: []int{}, Fresh: true},
		{}, with(heard(), func(l *api.Link) { l.Age = 4 }), with(calm(), func(l *api.Link) { l.Words[1] = 5 }),
		{Station: 3, Watch: 9, Safe: many(60), Words: many(60), Age: 8, Fresh: true},
	}
}

// someBytes: frames that are right, for these or for others, and what is none.
func someBytes() [][]byte {
	return [][]byte{nil, {}, {1, 2, 3}, made(3, 10, 5, 6), made(3, 9, 5, 6), made(3, 10), made(4, 10, 5, 6), made(3, 1, many(60)...), made(3, 1, many(61)...), made(250, 1), turned(made(3, 10, 5, 6), 9)}
}

// tell: what all calls answer.
func tell(l api.Link, b []byte, words []int) string {
	f, e := bus.Frame(3, 9, words)
	station, seq, told, e2 := bus.Open(b)
	s, e3 := bus.Start(3, 9, words)
	m, e4 := bus.Take(l, b)
	n, e5 := bus.Tick(l)
	return fmt.Sprint(f, e, station, seq, told, e2, s, e3, m, e4, n, e5)
}

// What is handed in is not changed, its spare room neither; and what lies there is not looked at.
func TestArgumentsStay(t *testing.T) {
	for _, l := range someLinks() {
		for _, b := range someBytes() {
			for _, words := range [][]int{nil, {}, {1, 2, 3}, {-1}, many(60), many(61)} {
				rl, rb, rw := roomyLink(l), roomy(b, 99), roomy(words, 99)
				links, bytes, numbers := wholeLink(rl), whole(rb), whole(rw)
				got := tell(rl, rb, rw)
				if wholeLink(rl) != links || whole(rb) != bytes || whole(rw) != numbers {
					t.Errorf("changed: %v, %v, %v", l, b, words)
				}
				if got != tell(twin(l), slices.Clip(slices.Clone(b)), slices.Clip(slices.Clone(words))) {
					t.Errorf("spare room counts: %v, %v, %v", l, b, words)
				}
			}
		}
	}
}

// A frame that goes on in the spare room of a list is no whole one.
func TestSpareRoomIsNotRead(t *testing.T) {
	b := made(3, 10, 5, 6)
	for end := range len(b) {
		unopened(t, b[:end], api.ErrSize)
		untaken(t, calm(), b[:end], api.ErrSize)
	}
}

// What is written into an answer, its spare room too, is seen neither in what was handed in nor in another answer; and what was handed in is not kept.
func TestAnswersAreNew(t *testing.T) {
	for _, b := range someBytes() {
		b, words := roomy(b, 99), roomy([]int{7, 8}, 99)
		bytes, numbers := whole(b), whole(words)
		f1, _ := bus.Frame(3, 9, words)
		f2, _ := bus.Frame(3, 9, words)
		_, _, w1, _ := bus.Open(b)
		_, _, w2, _ := bus.Open(b)
		answers := whole(f2) + whole(w2)
		spoil(f1, 77)
		spoil(w1, 77)
		if whole(b) != bytes || whole(words) != numbers || whole(f2)+whole(w2) != answers {
			t.Errorf("% x: an answer shares memory", b)
		}
		spoil(b, 66)
		spoil(words, 66)
		if whole(f2)+whole(w2) != answers {
			t.Errorf("% x: a list was kept", b)
		}
	}
}

// apart: do the lists of what a call answers share memory with one another, with those of another answer or with what was handed in?
func apart(t *testing.T, call func(l api.Link, b []byte) api.Link, l api.Link, b []byte) {
	t.Helper()
	l, b = roomyLink(l), roomy(b, 99)
	links, bytes := wholeLink(l), whole(b)
	one, two := call(l, b), call(l, b)
	before, words := wholeLink(two), whole(one.Words)
	spoil(one.Safe, 77)
	if whole(one.Words) != words {
		t.Errorf("%v, % x: Safe and Words share memory", l, b)
	}
	spoil(one.Words, 77)
	if wholeLink(l) != links || whole(b) != bytes || wholeLink(two) != before {
		t.Errorf("%v, % x: an answer shares memory", l, b)
	}
	spoil(l.Safe, 66)
	spoil(l.Words, 66)
	spoil(b, 66)
	if wholeLink(two) != before {
		t.Errorf("%v, % x: a list was kept", l, b)
	}
}

// Likewise of links, whether there is an error or not.
func TestLinksAreNew(t *testing.T) {
	for _, l := range someLinks() {
		for _, b := range someBytes() {
			apart(t, func(l api.Link, b []byte) api.Link { m, _ := bus.Take(l, b); return m }, l, b)
		}
		apart(t, func(l api.Link, _ []byte) api.Link { m, _ := bus.Tick(l); return m }, l, nil)
		apart(t, func(l api.Link, _ []byte) api.Link { m, _ := bus.Start(3, 9, l.Safe); return m }, l, nil)
	}
}

// A link whose lists are one and the same memory is taken like any other.
func TestOneListTwice(t *testing.T) {
	list := []int{1, 2}
	l := api.Link{Station: 3, Watch: 1, Safe: list, Words: list}
	m, e := bus.Take(l, made(3, 5, 7, 8))
	if e != api.OK || !alike(m, told(calmOne(), 5, 7, 8)) || !slices.Equal(list, []int{1, 2}) {
		t.Error(m, e, list)
	}
	l.Fresh = true
	if m, e = bus.Tick(l); e != api.OK || !alike(m, calmOne()) {
		t.Error(m, e)
	}
	spoil(m.Safe, 77)
	if !slices.Equal(m.Words, []int{1, 2}) || !slices.Equal(list, []int{1, 2}) {
		t.Error(m, list)
	}
}

func calmOne() api.Link {
	return api.Link{Station: 3, Watch: 1, Safe: []int{1, 2}, Words: []int{1, 2}}
}

// An answer hangs on no call ahead of it.
func TestNothingIsKept(t *testing.T) {
	all := func() string {
		s := ""
		for _, l := range someLinks() {
			for _, b := range someBytes() {
				s += tell(l, b, []int{1, 2}) + tell(l, b, []int{-1})
			}
		}
		return s
	}
	first := all()
	for range 3 {
		if all() != first {
			t.Error("it is not as it was")
		}
	}
}
