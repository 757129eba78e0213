package bus_test

import (
	"testing"

	"plantwright/api"
	"plantwright/bus"
)

// One that is not Fresh stays as it is.
func TestTickCalm(t *testing.T) {
	ticks(t, calm(), calm())
	for seq := range 256 {
		for _, watch := range []int{1, 2, 1000} {
			l := api.Link{Station: 247, Watch: watch, Safe: many(60), Words: many(60), Seq: seq}
			ticks(t, l, l)
		}
	}
	ticks(t, api.Link{Watch: 1}, api.Link{Watch: 1})
}

func TestTickHeard(t *testing.T) {
	for _, watch := range []int{1, 2, 3, 4, 255, 256, 999, 1000} {
		for age := range watch {
			l := with(heard(), func(l *api.Link) { l.Watch, l.Age = watch, age })
			want := with(l, func(l *api.Link) { l.Age++ })
			if age == watch-1 {
				want = with(calm(), func(l *api.Link) { l.Watch = watch })
			}
			ticks(t, l, want)
		}
	}
	none := api.Link{Station: 1, Watch: 1, Seq: 255, Fresh: true}
	ticks(t, none, api.Link{Station: 1, Watch: 1, Seq: 255})
}

// Watch ticks without a frame make a link safe, not one less; a frame begins them anew.
func TestWatch(t *testing.T) {
	for _, watch := range []int{1, 2, 5, 300, 1000} {
		l, _ := bus.Start(9, watch, []int{1, 2, 3})
		safe := l
		for round := range 3 {
			l, _ = bus.Take(l, made(9, 250+4*round, 65535, 0, round))
			for i := range watch - 1 {
				l, _ = bus.Tick(l)
				if !alike(l, api.Link{Station: 9, Watch: watch, Safe: []int{1, 2, 3}, Words: []int{65535, 0, round}, Seq: (250 + 4*round) % 256, Age: i + 1, Fresh: true}) {
					t.Fatal(watch, round, i, l)
				}
			}
		}
		for range 3 {
			l, _ = bus.Tick(l)
			if want := with(safe, func(l *api.Link) { l.Seq = 2 }); !alike(l, want) {
				t.Fatal(watch, l)
			}
		}
	}
}
