package blocks

import (
	"plantwright/api"
	"plantwright/cell"
)

// timer is what timers share: their pins and their state. Its mark is the word that each has a name of its own for: done, on, prev.
type timer struct {
	run   bool
	since int
	mark  bool
	at    int
}

func (t *timer) pins(mark string) api.Shape {
	return api.Shape{
		Ins:   []api.Pin{boolPin("in"), timePin("pt")},
		Outs:  []api.Pin{boolPin("q"), timePin("et")},
		State: []api.Pin{boolPin("run"), timePin("since"), boolPin(mark), timePin("at")},
	}
}

func (t *timer) load(state []int) {
	t.run, t.since, t.mark, t.at = truth(state[0]), state[1], truth(state[2]), state[3]
}

func (t *timer) save() []int {
	return []int{word(t.run), t.since, word(t.mark), t.at}
}

func (t *timer) outs(q bool) []int {
	return []int{word(q), t.at}
}

func (t *timer) start(now int) {
	t.run, t.since = true, now
}

func (t *timer) stop() {
	t.run, t.since = false, 0
}

// over: has pt gone by since the start? How far it has come is put down either way.
func (t *timer) over(pt, now int) bool {
	// The clock may have run over since.
	gone := cell.Wrap(api.Time, now-t.since)
	t.at = min(gone, pt)
	return gone >= pt
}

// ton switches on late; its mark is done.
type ton struct{ timer }

func (b *ton) shape() api.Shape {
	return b.pins("done")
}

func (b *ton) step(in []int, now int) []int {
	if !truth(in[0]) {
		b.timer = timer{}
		return b.outs(false)
	}
	if !b.run {
		b.timer = timer{run: true, since: now}
	}
	if !b.mark {
		b.mark = b.over(in[1], now)
	}
	return b.outs(b.mark)
}

// tof switches off late; its mark is on.
type tof struct{ timer }

func (b *tof) shape() api.Shape {
	return b.pins("on")
}

func (b *tof) step(in []int, now int) []int {
	switch {
	case truth(in[0]):
		b.timer = timer{mark: true}
	case b.mark:
		b.runOut(in[1], now)
	}
	return b.outs(b.mark)
}

func (b *tof) runOut(pt, now int) {
	if !b.run {
		b.start(now)
	}
	if b.over(pt, now) {
		b.mark = false
		b.stop()
	}
}

// tp is a pulse, which nothing makes longer; its mark is prev.
type tp struct{ timer }

func (b *tp) shape() api.Shape {
	return b.pins("prev")
}

func (b *tp) step(in []int, now int) []int {
	on := truth(in[0])
	if on && !b.mark && !b.run {
		b.start(now)
	}
	switch {
	case b.run:
		if b.over(in[1], now) {
			b.stop()
		}
	case !on:
		b.at = 0
	}
	b.mark = on
	return b.outs(b.run)
}
