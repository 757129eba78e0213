package bus_test

import (
	"bytes"
	"encoding/binary"
	"slices"
	"testing"

	"plantwright/api"
	"plantwright/bus"
)

// modelOpen: as the chapter says it, with sums that are made in another way.
func modelOpen(b []byte) (station, seq int, words []int, e api.Errno) {
	if len(b) < 5 || len(b) != 3+2*int(b[2])+2 {
		return 0, 0, nil, api.ErrSize
	}
	if !bytes.Equal(withSum(b[:len(b)-2]), b) {
		return 0, 0, nil, api.ErrSum
	}
	if b[0] > 247 {
		return 0, 0, nil, api.ErrRange
	}
	if b[2] > 60 {
		return 0, 0, nil, api.ErrSize
	}
	for i := range int(b[2]) {
		words = append(words, int(binary.LittleEndian.Uint16(b[3+2*i:])))
	}
	return int(b[0]), int(b[1]), words, api.OK
}

// drawn: a frame, or one that was spoilt in one way or another.
func drawn(d *die, seq int) []byte {
	station := []int{3, 3, 3, 3, 3, 4, 247, 250}[d.n(8)]
	words := many([]int{2, 2, 2, 2, 2, 1, 3, 61}[d.n(8)])
	for i := range words {
		words[i] = []int{d.n(9), 65535, d.n(65536)}[d.n(3)]
	}
	b := made(station, seq+[]int{0, 1, 1, 2, 3, 126, 127, 128, 129, 255}[d.n(10)], words...)
	switch d.n(12) {
	case 0:
		b = turned(b, d.n(8*len(b)))
	case 1:
		b = b[:d.n(len(b))]
	case 2:
		b = append(b, make([]byte, 1+d.n(3))...)
	}
	return b
}

// Bytes as they come, held against the chapter's words.
func TestOpenModel(t *testing.T) {
	d := die(4)
	count := map[api.Errno]int{}
	for range 30000 {
		b := drawn(&d, d.n(256))
		station, seq, words, e := modelOpen(b)
		if count[e]++; e == api.OK {
			opens(t, b, station, seq, words...)
		} else {
			unopened(t, b, e)
		}
	}
	for _, e := range []api.Errno{api.OK, api.ErrSize, api.ErrSum, api.ErrRange} {
		if count[e] < 500 {
			t.Error("too few of each kind: ", count)
		}
	}
}

// history: all that a link of station 3 with the safe words 100, 200 was told that counted, tick by tick.
type history struct {
	watch int
	last  []int // the words of the newest frame
	seq   int
	quiet int // ticks since then; watch or more: it does not count
}

// hears: what a frame does to it.
func (h *history) hears(b []byte) api.Errno {
	station, seq, words, e := modelOpen(b)
	switch {
	case e != api.OK:
		return e
	case station != 3:
		return api.ErrName
	case len(words) != 2:
		return api.ErrSize
	case h.quiet < h.watch && ((seq-h.seq+256)%256 < 1 || (seq-h.seq+256)%256 > 127):
		return api.ErrOld
	}
	h.last, h.seq, h.quiet = words, seq, 0
	return api.OK
}

// link: what is known of the station then.
func (h *history) link() api.Link {
	safe := []int{100, 200}
	if h.quiet >= h.watch {
		return api.Link{Station: 3, Watch: h.watch, Safe: safe, Words: slices.Clone(safe), Seq: h.seq}
	}
	return api.Link{Station: 3, Watch: h.watch, Safe: safe, Words: h.last, Seq: h.seq, Age: h.quiet, Fresh: true}
}

// What a link has is what the newest frame told that it has heard, or what is safe.
func TestLinkModel(t *testing.T) {
	d := die(5)
	count := map[api.Errno]int{}
	for range 300 {
		watch := 1 + d.n(6)
		l, _ := bus.Start(3, watch, []int{100, 200})
		h := history{watch: watch, quiet: watch}
		for range 100 {
			want, e := api.OK, api.OK
			if d.n(3) == 0 {
				l, e = bus.Tick(l)
				h.quiet++
			} else {
				b := drawn(&d, h.seq)
				l, e = bus.Take(l, b)
				want = h.hears(b)
				count[want]++
			}
			if e != want || !alike(l, h.link()) {
				t.Fatalf("%v, %v, not %v, %v", l, e, h.link(), want)
			}
		}
	}
	for _, e := range []api.Errno{api.OK, api.ErrSize, api.ErrSum, api.ErrRange, api.ErrName, api.ErrOld} {
		if count[e] < 500 {
			t.Error("too few of each kind: ", count)
		}
	}
}
