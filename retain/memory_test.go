package retain_test

import (
	"fmt"
	"slices"
	"testing"

	"plantwright/api"
	"plantwright/retain"
)

// roomy: the same list, with room behind it that is not nothing.
func roomy[T any](l []T, spare T) []T {
	out := append(slices.Clone(l), slices.Repeat([]T{spare}, 50)...)
	return out[:len(l)]
}

// whole: all that lists have, their spare room too, as a text.
func whole[T any](lists ...[]T) string {
	s := ""
	for _, l := range lists {
		s += fmt.Sprint(len(l), l[:cap(l)])
	}
	return s
}

// spoil writes over all of a list, its spare room too.
func spoil[T any](l []T, with T) {
	l = l[:cap(l)]
	for i := range l {
		l[i] = with
	}
}

// tell: what all calls answer.
func tell(a, b []byte, words []int, serial int) string {
	r, e := retain.Record(words, serial)
	l, n, f := retain.Read(a)
	m, k, g := retain.Newest(a, b)
	s, h := retain.Save(a, b, words)
	return fmt.Sprint(r, e, l, n, f, m, k, g, s, h)
}

// What is handed in is not changed, its spare room neither; and what lies there is not looked at.
func TestArgumentsStay(t *testing.T) {
	slots := append(noRecords(), made(5, 1, 2), made(6), made(7, many(100)...), append(made(8, 3), 1, 2, 3))
	for _, a := range slots {
		for _, b := range slots {
			for _, words := range [][]int{nil, {}, {1, 2, 3}, {-1}, many(api.MaxKept + 1)} {
				ra, rb, rw := roomy(a, 99), roomy(b, 99), roomy(words, 99)
				bytes, numbers := whole(ra, rb), whole(rw)
				got := tell(ra, rb, rw, 9)
				if whole(ra, rb) != bytes || whole(rw) != numbers {
					t.Errorf("changed: %v, %v, %v", a, b, words)
				}
				if got != tell(slices.Clip(slices.Clone(a)), slices.Clip(slices.Clone(b)), slices.Clip(slices.Clone(words)), 9) {
					t.Errorf("spare room counts: %v, %v, %v", a, b, words)
				}
			}
		}
	}
}

// A record that goes on in the spare room of a slot is no whole one.
func TestSpareRoomIsNotRead(t *testing.T) {
	b := made(5, 1, 2)
	for end := range len(b) {
		want := api.ErrLost
		if end >= 16 {
			want = api.ErrSize
		}
		unread(t, b[:end], want)
		noNewest(t, b[:end], b[:end])
	}
}

// What is written into an answer, its spare room too, is seen neither in what was handed in nor in another answer.
func TestAnswersAreNew(t *testing.T) {
	a, b, words := roomy(made(5, 1, 2), 99), roomy(made(6, 3, 4), 99), roomy([]int{7, 8}, 99)
	bytes, numbers := whole(a, b), whole(words)
	r1, _ := retain.Record(words, 9)
	r2, _ := retain.Record(words, 9)
	l1, _, _ := retain.Read(a)
	l2, _, _ := retain.Read(a)
	m1, _, _ := retain.Newest(a, b)
	m2, _, _ := retain.Newest(a, b)
	k1, _, _ := retain.Newest(b, a)
	k2, _, _ := retain.Newest(b, a)
	answers := whole(r2) + whole(l2, m2, k2)
	spoil(r1, 77)
	spoil(l1, 77)
	spoil(m1, 77)
	spoil(k1, 77)
	if whole(a, b) != bytes || whole(words) != numbers || whole(r2)+whole(l2, m2, k2) != answers {
		t.Error("an answer shares memory")
	}
	spoil(a, 66)
	spoil(b, 66)
	spoil(words, 66)
	if whole(r2)+whole(l2, m2, k2) != answers {
		t.Error("a list was kept")
	}
}

// Likewise of Save: no two of the lists that it tells share memory.
func TestStepsAreNew(t *testing.T) {
	for _, n := range []int{0, 1, 2, 3, 100} {
		for place := range 3 {
			a, b, words := roomy(made(5, 1, 2), 99), roomy(made(6, 3, 4), 99), roomy(many(n), 99)
			bytes, numbers := whole(a, b), whole(words)
			one, _ := retain.Save(a, b, words)
			two, _ := retain.Save(a, b, words)
			before := []string{whole(one[0].Data), whole(one[1].Data), whole(one[2].Data)}
			other := fmt.Sprint(two)
			spoil(one[place].Data, 77)
			for i, w := range one {
				if i != place && whole(w.Data) != before[i] {
					t.Errorf("%d words: step %d is seen in step %d", n, place, i)
				}
			}
			spoil(one, api.Write{Slot: 77})
			if whole(a, b) != bytes || whole(words) != numbers || fmt.Sprint(two) != other {
				t.Errorf("%d words: an answer shares memory", n)
			}
			spoil(a, 66)
			spoil(b, 66)
			spoil(words, 66)
			if fmt.Sprint(two) != other {
				t.Errorf("%d words: a list was kept", n)
			}
		}
	}
}

// An answer hangs on no call ahead of it.
func TestNothingIsKept(t *testing.T) {
	all := func() string {
		s := ""
		for _, a := range append(noRecords(), made(5, 1, 2), made(6)) {
			s += tell(a, made(5, 9), []int{1}, 1) + tell(made(7), a, []int{-1}, 2)
		}
		return s
	}
	first := all()
	for range 3 {
		if all() != first {
			t.Error("it is not as it was")
		}
	}
}
