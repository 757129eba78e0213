package bus_test

import (
	"slices"
	"testing"

	"plantwright/api"
	"plantwright/bus"
)

// told: the link with what a frame told it.
func told(l api.Link, seq int, words ...int) api.Link {
	return api.Link{Station: l.Station, Watch: l.Watch, Safe: l.Safe, Words: words, Seq: seq, Fresh: true}
}

// The chapter's example.
func TestTakeExample(t *testing.T) {
	l := with(heard(), func(l *api.Link) { l.Seq = 250 })
	takes(t, l, made(3, 4, 10, 11), told(l, 4, 10, 11))
	untaken(t, l, made(3, 250, 10, 11), api.ErrOld)
	untaken(t, l, made(3, 249, 10, 11), api.ErrOld)
}

// Of each two sequence numbers: one that is 1 to 127 ahead is new.
func TestTakeOld(t *testing.T) {
	for seq := range 256 {
		l := with(heard(), func(l *api.Link) { l.Seq = seq })
		for ahead := range 256 {
			b := made(3, seq+ahead, 10, 11)
			if ahead >= 1 && ahead <= 127 {
				takes(t, l, b, told(l, (seq+ahead)%256, 10, 11))
			} else {
				untaken(t, l, b, api.ErrOld)
			}
		}
	}
}

// One that is not Fresh takes any sequence number, its own, too.
func TestTakeCalm(t *testing.T) {
	for seq := range 256 {
		l := with(calm(), func(l *api.Link) { l.Seq = seq })
		for other := range 256 {
			takes(t, l, made(3, other, 10, 11), told(l, other, 10, 11))
		}
	}
}

func TestTakeWords(t *testing.T) {
	for n := range api.MaxWords + 1 {
		l := api.Link{Station: 247, Watch: 1000, Safe: many(n), Words: many(n), Seq: 255}
		words := make([]int, n)
		for i := range words {
			words[i] = 65535 - i
		}
		takes(t, l, made(247, 0, words...), told(l, 0, words...))
		l.Fresh, l.Age = true, 999
		takes(t, l, made(247, 0, words...), told(l, 0, words...))
		takes(t, l, made(247, 126, words...), told(l, 126, words...))
	}
}

// What Open tells is told of the link, too.
func TestTakeOpenErrors(t *testing.T) {
	b := made(3, 10, 5, 6)
	for _, l := range []api.Link{calm(), heard()} {
		untaken(t, l, nil, api.ErrSize)
		for end := range len(b) {
			untaken(t, l, b[:end], api.ErrSize)
		}
		untaken(t, l, append(slices.Clone(b), 0), api.ErrSize)
		for bit := range 8 * len(b) {
			want := api.ErrSum
			if bit/8 == 2 {
				want = api.ErrSize
			}
			untaken(t, l, turned(b, bit), want)
		}
		for station := 248; station < 256; station++ {
			untaken(t, l, made(station, 10, 5, 6), api.ErrRange)
		}
		for n := 61; n < 256; n++ {
			untaken(t, l, made(3, 10, many(n)...), api.ErrSize)
		}
	}
}

func TestTakeOthers(t *testing.T) {
	for _, l := range []api.Link{calm(), heard()} {
		for station := range api.MaxStation + 1 {
			if station != 3 {
				untaken(t, l, made(station, 10, 5, 6), api.ErrName)
			}
		}
		for n := range api.MaxWords + 1 {
			if n != 2 {
				untaken(t, l, made(3, 10, many(n)...), api.ErrSize)
			}
		}
	}
	none := api.Link{Station: 3, Watch: 1}
	untaken(t, none, made(3, 10, 0), api.ErrSize)
	takes(t, none, made(3, 10), told(none, 10))
}

// Open's errors ahead of the station, that ahead of how many words there are, this ahead of the sequence number.
func TestTakeFirstError(t *testing.T) {
	for _, old := range []int{9, 8, 137, 255} {
		l := heard()
		untaken(t, l, made(3, old, 5, 6), api.ErrOld)
		untaken(t, l, made(3, old, 5), api.ErrSize)
		untaken(t, l, made(3, old, 5, 6, 7), api.ErrSize)
		untaken(t, l, made(4, old, 5, 6), api.ErrName)
		untaken(t, l, made(4, old, 5), api.ErrName)
		untaken(t, l, made(4, old, many(61)...), api.ErrSize)
		untaken(t, l, made(250, old, 5), api.ErrRange)
		untaken(t, l, turned(made(4, old, 5), 0), api.ErrSum)
		untaken(t, l, turned(made(250, old, 5), 9), api.ErrSum)
	}
}

// No frame counts twice while the link is Fresh; whatever came in between, and how often.
func TestNoFrameCountsTwice(t *testing.T) {
	for seq := range 256 {
		b := made(3, seq, 5, 6)
		l, e := bus.Take(calm(), b)
		if e != api.OK {
			t.Fatal(l, e)
		}
		for range 3 {
			untaken(t, l, b, api.ErrOld)
			l, _ = bus.Tick(l)
			untaken(t, l, b, api.ErrOld)
		}
		l, _ = bus.Take(l, made(3, seq+100, 7, 8))
		untaken(t, l, b, api.ErrOld)
		for range 4 {
			l, _ = bus.Tick(l)
		}
		takes(t, l, b, told(l, seq, 5, 6))
	}
}
