package plant_test

import (
	"fmt"
	"math"
	"slices"
	"strings"
	"testing"

	"plantwright/api"
	"plantwright/plant"
)

// The document's example, tick by tick.
func TestTickExample(t *testing.T) {
	p := small()
	s := begun(t, p)
	for i, want := range []struct {
		came           [][]byte
		values         []int
		down, fresh    bool
		told           string
		hours          int
		first, now, sq int
	}{
		{nil, list(0, 1, 0), true, false, "4 0 [0]", 0, 0, 1, 0},
		{[][]byte{frame(4, 9, 1, 0)}, list(1, 0, 0), false, true, "4 1 [0]", 0, -1, 2, 9},
		{nil, list(1, 0, 50), false, true, "4 2 [50]", 1, -1, 3, 9},
		{nil, list(1, 0, 50), false, true, "4 3 [50]", 1, -1, 4, 9},
		{nil, list(0, 1, 0), true, false, "4 4 [0]", 1, 0, 5, 9},
	} {
		x := ticked(t, p, s, i == 1, want.came...)
		s = x.State
		alike(t, fmt.Sprint("tick ", i),
			[]any{s.Values, s.Trip.Down, s.Links[0].Fresh, opened(x.Frames), variable(t, p, s, "p", "hours"), s.Trip.First, s.Now, s.Links[0].Seq, s.Trip.Key, s.Seqs},
			[]any{want.values, want.down, want.fresh, want.told, list(want.hours), want.first, want.now, want.sq, i == 1, list(i + 1)})
	}
}

// heard: a plant behind a tick in which it heard all of its stations, calm.
func heard(t *testing.T, p api.Plan) api.State {
	t.Helper()
	return ticked(t, p, begun(t, p), false, frame(4, 10, 0, 5, 6, 7), frame(7, 20, 1, 2, 3, 0), frame(0, 30, 0), frame(247, 40)).State
}

// Frames are taken in order, each by the link of its station; those that do not count change nothing.
func TestTickTakes(t *testing.T) {
	p := large()
	s := heard(t, p)
	for i, seq := range []int{10, 20, 30, 40} {
		alike(t, "link", []any{s.Links[i].Seq, s.Links[i].Age, s.Links[i].Fresh}, []any{seq, 0, true})
	}
	spoilt := frame(4, 12, 1, 9, 9, 9)
	spoilt[3] ^= 1
	for _, x := range []struct {
		came    [][]byte
		seq, at int
		words   []int
	}{
		{nil, 10, 1, list(0, 5, 6, 7)},
		{[][]byte{frame(4, 11, 1, 2, 3, 4)}, 11, 0, list(1, 2, 3, 4)},
		{[][]byte{frame(4, 11, 1, 2, 3, 4), frame(4, 13, 5, 6, 7, 8)}, 13, 0, list(5, 6, 7, 8)},
		{[][]byte{frame(4, 13, 5, 6, 7, 8), frame(4, 11, 1, 2, 3, 4)}, 13, 0, list(5, 6, 7, 8)},
		{[][]byte{frame(4, 10, 1, 2, 3, 4)}, 10, 1, list(0, 5, 6, 7)},
		{[][]byte{frame(4, 9, 9, 9, 9, 9), frame(4, 138, 9, 9, 9, 9), frame(4, 137, 1, 2, 3, 4)}, 137, 0, list(1, 2, 3, 4)},
		{[][]byte{frame(4, 11, 1, 2, 3)}, 10, 1, list(0, 5, 6, 7)},
		{[][]byte{frame(4, 11, 1, 2, 3, 4, 5)}, 10, 1, list(0, 5, 6, 7)},
		{[][]byte{spoilt}, 10, 1, list(0, 5, 6, 7)},
		{[][]byte{spoilt, nil, {}, {4}, frame(5, 11, 1, 2, 3, 4), frame(4, 14, 9, 9, 9, 9), spoilt, frame(4, 11)}, 14, 0, list(9, 9, 9, 9)},
		{[][]byte{frame(5, 11, 1, 2, 3, 4), frame(246, 11, 1, 2, 3, 4), frame(40, 11, 1, 2, 3, 4)}, 10, 1, list(0, 5, 6, 7)},
		{[][]byte{frame(7, 21, 1, 2, 3, 4)}, 10, 1, list(0, 5, 6, 7)},
	} {
		got := ticked(t, p, s, false, x.came...).State.Links[0]
		alike(t, fmt.Sprint(x.came), got, api.Link{Station: 4, Watch: 3, Safe: list(0, 65534, 61072, 65534), Words: x.words, Seq: x.seq, Age: x.at, Fresh: true})
	}
}

// A link that took no frame in a tick ticks, once, also if frames came that do not count; one that took some does not.
func TestTickAges(t *testing.T) {
	p := large()
	s := heard(t, p)
	old := [][]byte{frame(4, 10, 1, 1, 1, 1), frame(4, 9, 1, 1, 1, 1), frame(0, 29, 1), frame(0, 31), frame(247, 41, 1)}
	for i := 1; i <= 5; i++ {
		s = ticked(t, p, s, false, old...).State
		if i == 3 {
			old = nil
		}
		wantAge, wantFresh := i, true
		if i >= 3 {
			wantAge, wantFresh = 0, false
		}
		alike(t, fmt.Sprint("station 4, tick ", i), []any{s.Links[0].Age, s.Links[0].Fresh}, []any{wantAge, wantFresh})
		alike(t, "station 7", []any{s.Links[1].Age, s.Links[1].Fresh, s.Links[1].Seq}, []any{0, false, 20})
		alike(t, "station 247", []any{s.Links[3].Age, s.Links[3].Fresh}, []any{i, true})
	}
	s = ticked(t, p, s, false, frame(247, 41), frame(247, 42), frame(4, 10, 1, 1, 1, 1)).State
	alike(t, "heard again", []any{s.Links[3].Age, s.Links[3].Seq, s.Links[0].Fresh, s.Links[0].Age, s.Links[0].Seq}, []any{0, 42, true, 0, 10})
}

// Behind its Watch without a frame a station counts as its Safe, not a tick earlier.
func TestTickSafe(t *testing.T) {
	for _, watch := range []int{1, 2, 3, 7} {
		p := small()
		p.Field[0].Watch = watch
		s := ticked(t, p, begun(t, p), false, frame(4, 1, 1, 0)).State
		for i := 1; i <= watch+1; i++ {
			alike(t, fmt.Sprint(watch, " ", i), s.Values[:2], list(1, 0))
			if i == watch {
				break
			}
			s = ticked(t, p, s, false).State
		}
		s = ticked(t, p, s, false).State
		alike(t, fmt.Sprint(watch), s.Values[:2], list(0, 1))
		alike(t, fmt.Sprint(watch), s.Links[0].Fresh, false)
	}
}

// P14.2: what words of the bus are, by kind, in and out: 0 to 65535, two of them with the lower one first.
func TestTickWords(t *testing.T) {
	for _, x := range []struct {
		kind  api.Kind
		words []int
		value int
		told  []int
	}{
		{api.Bool, list(0), 0, list(0)}, {api.Bool, list(1), 1, list(1)}, {api.Bool, list(2), 0, list(0)}, {api.Bool, list(65535), 1, list(1)}, {api.Bool, list(256), 0, list(0)},
		{api.Int, list(5), 5, list(5)}, {api.Int, list(32767), 32767, list(32767)}, {api.Int, list(32768), -32768, list(32768)}, {api.Int, list(65535), -1, list(65535)},
		{api.Word, list(0), 0, list(0)}, {api.Word, list(32768), 32768, list(32768)}, {api.Word, list(65535), 65535, list(65535)},
		{api.Dint, list(1, 2), 131073, list(1, 2)}, {api.Dint, list(65535, 32767), math.MaxInt32, list(65535, 32767)}, {api.Dint, list(0, 32768), math.MinInt32, list(0, 32768)},
		{api.Dint, list(65535, 65535), -1, list(65535, 65535)}, {api.Dint, list(61072, 65534), -70000, list(61072, 65534)},
		{api.Time, list(1, 2), 131073, list(1, 2)}, {api.Time, list(0, 32768), 2147483648, list(0, 32768)}, {api.Time, list(65535, 65535), 4294967295, list(65535, 65535)},
	} {
		p := wide(x.kind, 3, 3)
		p.Text = fmt.Sprintf("PROGRAM p VAR_EXTERNAL a1, b1 : %s; END_VAR b1 := a1; END_PROGRAM", []string{"", "BOOL", "INT", "DINT", "WORD", "TIME"}[x.kind])
		zero := make([]int, len(x.words))
		came := slices.Concat(zero, x.words, zero)
		got := ticked(t, p, begun(t, p), false, frame(5, 1, came...), frame(4, 1, 0, 0))
		alike(t, fmt.Sprint(x), list(value(p, got.State, "a0"), value(p, got.State, "a1"), value(p, got.State, "a2"), value(p, got.State, "b1")), list(0, x.value, 0, x.value))
		alike(t, fmt.Sprint(x), opened(got.Frames), fmt.Sprint("4 0 [0] 5 0 ", slices.Concat(zero, x.told, zero)))
	}
}

// A sensor is Mute if its station is not heard, whatever its global has; else it asks if that is 1.
func TestTickSensors(t *testing.T) {
	p := large()
	p.Guard.Delay = 0
	calm := [][]byte{frame(4, 10, 0, 5, 6, 7), frame(7, 20, 1, 2, 3, 0), frame(0, 30, 0)}
	for _, x := range []struct {
		what string
		came [][]byte
		held []int
	}{
		{"calm", calm, list(0, 0)},
		{"go asks", [][]byte{frame(4, 10, 1, 5, 6, 7), calm[1], calm[2]}, list(0, 1)},
		{"stop asks", [][]byte{calm[0], frame(7, 20, 1, 2, 3, 1), calm[2]}, list(0, 0)},
		{"stop and door ask", [][]byte{calm[0], frame(7, 20, 1, 2, 3, 1), frame(0, 30, 1)}, list(1, 0)},
		{"stop is mute, door asks", [][]byte{calm[0], frame(0, 30, 1)}, list(1, 0)},
		{"stop is mute", [][]byte{calm[0], calm[2]}, list(0, 0)},
		{"stop and door are mute", [][]byte{calm[0]}, list(1, 0)},
		{"go is mute, though what is safe is 0", calm[1:], list(0, 1)},
		{"even numbers are 0", [][]byte{frame(4, 10, 2, 5, 6, 7), frame(7, 20, 1, 2, 3, 4), frame(0, 30, 65534)}, list(0, 0)},
		{"nothing came", nil, list(1, 1)},
	} {
		s := ticked(t, p, begun(t, p), false, x.came...).State
		alike(t, x.what, []any{s.Trip.Held, s.Trip.Down}, []any{x.held, x.held[0]+x.held[1] > 0})
	}
}

// The guard's step comes behind what came, and ahead of the programs; noughts are told in the same tick in which it is voted down, and no more in the one in which the key lets it up. Values stay as they are.
func TestTickDown(t *testing.T) {
	p := small()
	p.Tasks[0] = api.Task{Name: "p", Period: 1000, Deadline: 1000}
	s := ticked(t, p, begun(t, p), false, frame(4, 1, 1, 0)).State
	seq := 1
	step := func(what string, key bool, run, stop int, down bool, told string) {
		t.Helper()
		seq++
		x := ticked(t, p, s, key, frame(4, seq, run, stop))
		s = x.State
		_, rest, _ := strings.Cut(opened(x.Frames), " ")
		_, words, _ := strings.Cut(rest, " ")
		alike(t, what, []any{s.Trip.Down, words, s.Values[2]}, []any{down, told, 50 * run})
	}
	step("calm", false, 1, 0, false, "[50]")
	step("voted", false, 1, 1, true, "[0]")
	step("calm again", false, 1, 0, true, "[0]")
	step("key, but voted", true, 1, 1, true, "[0]")
	step("key still", true, 1, 0, true, "[0]")
	step("key back", false, 1, 0, true, "[0]")
	step("key", true, 1, 0, false, "[50]")
	step("key still", true, 1, 0, false, "[50]")
	step("voted, though the key is turned", true, 0, 1, true, "[0]")
	step("key back", false, 1, 1, true, "[0]")
}

// Noughts are as many words as the globals are.
func TestTickNoughts(t *testing.T) {
	p := large()
	s := begun(t, p)
	for range 3 {
		x := ticked(t, p, s, false)
		s = x.State
		if s.Trip.Down {
			alike(t, "noughts", opened(x.Frames), fmt.Sprintf("4 %d [0 0 0] 0 %d [0 0 0 0]", s.Now-1, s.Now-1))
		}
	}
	alike(t, "down", s.Trip.Down, true)
}

// All stations that take something are told, in order; sequence numbers go round, those of the others stay.
func TestTickTells(t *testing.T) {
	p := large()
	s := with(heard(t, p), func(s *api.State) { s.Seqs = list(254, 9, 100, 255) })
	for i, want := range [][]int{{255, 9, 101, 255}, {0, 9, 102, 255}, {1, 9, 103, 255}} {
		x := ticked(t, p, s, false, frame(4, 11+i, 0, 5, 6, 7), frame(7, 21+i, 1, 2, 3, 0), frame(0, 31+i, 0))
		v := func(name string, words int) string {
			n := value(p, x.State, name)
			return strings.Trim(fmt.Sprint([]int{n & 65535, n >> 16 & 65535}[:words]), "[]")
		}
		alike(t, "told", opened(x.Frames), fmt.Sprintf("4 %d [%s %s] 0 %d [%s %s %s]", s.Seqs[0], v("rate", 2), v("speed", 1), s.Seqs[2], v("lamp", 1), v("delay", 2), v("out", 1)))
		s = x.State
		alike(t, "sequence numbers", s.Seqs, want)
	}
	none := with(small(), func(p *api.Plan) { p.Field[0].Takes = nil })
	x := ticked(t, none, begun(t, none), false)
	alike(t, "nothing is told", []any{len(x.Frames), x.State.Seqs}, []any{0, list(0)})
}

// Now is one more; at the last millisecond there is no further one.
func TestTickNow(t *testing.T) {
	p := small()
	s := begun(t, p)
	for _, now := range []int{0, 1, 999999, 1<<32 - 2} {
		s.Now = now
		alike(t, "Now", ticked(t, p, s, false).State.Now, now+1)
	}
	s.Now = api.MaxNow
	x := plant.Tick(p, s, nil, false)
	none(t, "Tick", x.State, x.Code, api.ErrEnd)
}
