package bus_test

import (
	"math"
	"slices"
	"testing"

	"plantwright/api"
	"plantwright/bus"
)

func TestStart(t *testing.T) {
	starts(t, 7, 3, []int{5, 6}, api.Link{Station: 7, Watch: 3, Safe: []int{5, 6}, Words: []int{5, 6}})
	starts(t, 0, 1, nil, api.Link{Watch: 1})
	starts(t, 0, 1, []int{}, api.Link{Watch: 1})
	starts(t, 247, 1000, []int{0, 65535}, api.Link{Station: 247, Watch: 1000, Safe: []int{0, 65535}, Words: []int{0, 65535}})
	for n := range api.MaxWords + 1 {
		starts(t, 1, 2, many(n), api.Link{Station: 1, Watch: 2, Safe: many(n), Words: many(n)})
	}
	for station := range api.MaxStation + 1 {
		starts(t, station, 2, []int{9}, api.Link{Station: station, Watch: 2, Safe: []int{9}, Words: []int{9}})
	}
	for watch := 1; watch <= api.MaxWatch; watch++ {
		starts(t, 1, watch, []int{9}, api.Link{Station: 1, Watch: watch, Safe: []int{9}, Words: []int{9}})
	}
}

func TestStartErrors(t *testing.T) {
	over := make([]int, api.MaxWords+1)
	for _, n := range noStations {
		unstarted(t, n, 1, nil, api.ErrRange)
		unstarted(t, n, 1000, []int{1}, api.ErrRange)
		unstarted(t, n, 1, over, api.ErrRange)
	}
	for _, n := range noWatches {
		unstarted(t, 0, n, nil, api.ErrRange)
		unstarted(t, 247, n, []int{1}, api.ErrRange)
		unstarted(t, 0, n, over, api.ErrRange)
		unstarted(t, 248, n, over, api.ErrRange)
	}
	for _, n := range []int{61, 62, 120, 255, 256, 257, 65536, 1 << 20} {
		unstarted(t, 0, 1, make([]int, n), api.ErrSize)
	}
	for _, n := range noWords {
		for place := range api.MaxWords {
			safe := many(api.MaxWords)
			safe[place] = n
			unstarted(t, 0, 1, safe, api.ErrRange)
		}
		unstarted(t, 0, 1, []int{n}, api.ErrRange)
		unstarted(t, 0, 1, append(many(api.MaxWords), n), api.ErrSize)
		unstarted(t, 0, 1, slices.Repeat([]int{n}, 61), api.ErrSize)
		unstarted(t, 0, 0, []int{n}, api.ErrRange)
	}
}

// calm: a link that is not Fresh; heard: one that is.
func calm() api.Link {
	return api.Link{Station: 3, Watch: 4, Safe: []int{1, 2}, Words: []int{1, 2}, Seq: 9}
}

func heard() api.Link {
	return api.Link{Station: 3, Watch: 4, Safe: []int{1, 2}, Words: []int{7, 8}, Seq: 9, Age: 2, Fresh: true}
}

// with: a link of which something is other than it was.
func with(l api.Link, change func(*api.Link)) api.Link {
	l = twin(l)
	change(&l)
	return l
}

// What is wrong with links of both kinds.
func TestLinksThatCouldNotBe(t *testing.T) {
	isNone(t, api.Link{})
	isNone(t, api.Link{Fresh: true})
	for _, l := range []api.Link{calm(), heard()} {
		isOne(t, l)
		for _, n := range noStations {
			isNone(t, with(l, func(l *api.Link) { l.Station = n }))
		}
		for _, n := range noWatches {
			isNone(t, with(l, func(l *api.Link) { l.Watch = n }))
		}
		for _, n := range noSeqs {
			isNone(t, with(l, func(l *api.Link) { l.Seq = n }))
		}
		for _, n := range noWords {
			for place := range 2 {
				isNone(t, with(l, func(l *api.Link) { l.Safe[place] = n }))
				isNone(t, with(l, func(l *api.Link) { l.Words[place] = n }))
				isNone(t, with(l, func(l *api.Link) { l.Words[place], l.Safe[place] = n, n }))
			}
		}
		for _, list := range [][]int{nil, {}, {1}, {1, 2, 3}, many(api.MaxWords), many(api.MaxWords + 1)} {
			isNone(t, with(l, func(l *api.Link) { l.Safe = list }))
			isNone(t, with(l, func(l *api.Link) { l.Words = list }))
		}
		for _, n := range []int{61, 62, 1000} {
			isNone(t, with(l, func(l *api.Link) { l.Safe, l.Words = many(n), many(n) }))
		}
	}
}

func TestAges(t *testing.T) {
	for _, watch := range []int{1, 2, 3, 4, 255, 256, 999, 1000} {
		l := with(heard(), func(l *api.Link) { l.Watch = watch })
		for age := range watch {
			isOne(t, with(l, func(l *api.Link) { l.Age = age }))
		}
		for _, age := range []int{-1, -2, watch, watch + 1, 1000, 65536, math.MinInt, math.MaxInt} {
			isNone(t, with(l, func(l *api.Link) { l.Age = age }))
		}
		l = with(calm(), func(l *api.Link) { l.Watch = watch })
		isOne(t, l)
		for _, age := range []int{-1, 1, 2, watch - 1, watch, watch + 1, math.MinInt, math.MaxInt} {
			if age != 0 {
				isNone(t, with(l, func(l *api.Link) { l.Age = age }))
			}
		}
	}
}

// One that is not Fresh has what is safe, and nothing else.
func TestCalmWords(t *testing.T) {
	for place := range 2 {
		for _, n := range []int{0, 3, 65535} {
			isNone(t, with(calm(), func(l *api.Link) { l.Words[place] = n }))
			isOne(t, with(heard(), func(l *api.Link) { l.Words[place] = n }))
		}
	}
	isNone(t, with(calm(), func(l *api.Link) { slices.Reverse(l.Words) }))
	isOne(t, with(heard(), func(l *api.Link) { copy(l.Words, l.Safe) }))
	for place := range api.MaxWords {
		l := api.Link{Watch: 1, Safe: many(api.MaxWords), Words: many(api.MaxWords)}
		isOne(t, l)
		l.Words[place] ^= 1
		isNone(t, l)
		l.Fresh = true
		isOne(t, l)
	}
}

// The edges of what may be.
func TestLinksThatCouldBe(t *testing.T) {
	for seq := range 256 {
		isOne(t, with(calm(), func(l *api.Link) { l.Seq = seq }))
		isOne(t, with(heard(), func(l *api.Link) { l.Seq = seq }))
	}
	for _, station := range []int{0, 1, 246, 247} {
		isOne(t, with(calm(), func(l *api.Link) { l.Station = station }))
		isOne(t, with(heard(), func(l *api.Link) { l.Station = station }))
	}
	for n := range api.MaxWords + 1 {
		isOne(t, api.Link{Watch: 1, Safe: many(n), Words: many(n)})
		isOne(t, api.Link{Watch: 1, Safe: many(n), Words: make([]int, n), Fresh: true})
	}
	isOne(t, api.Link{Watch: 1, Safe: []int{0, 65535}, Words: []int{65535, 0}, Fresh: true})
	isOne(t, api.Link{Watch: 1, Safe: []int{}, Words: nil})
	isOne(t, api.Link{Watch: 1, Safe: nil, Words: []int{}})
}

// What Start, Take and Tick tell is always a link that could be.
func TestLinksAreClosed(t *testing.T) {
	d := die(3)
	for range 300 {
		n := d.n(4)
		l, e := bus.Start(d.n(248), 1+d.n(4), many(n))
		for range 40 {
			if e == api.ErrState {
				t.Fatal(l, e)
			}
			if d.n(2) == 0 {
				l, e = bus.Tick(l)
			} else {
				l, e = bus.Take(l, made(l.Station, d.n(256), slices.Repeat([]int{d.n(65536)}, n)...))
			}
		}
	}
}
