package bus_test

import (
	"slices"
	"testing"

	"plantwright/api"
	"plantwright/bus"
)

// The chapter's example, and others, byte by byte.
func TestFrame(t *testing.T) {
	frames(t, 3, 9, []int{1, 258}, unhex("03 09 02 01 00 02 01 90 05"))
	frames(t, 0, 0, nil, unhex("00 00 00 71 C0"))
	frames(t, 247, 255, []int{65535}, unhex("F7 FF 01 FF FF B1 B1"))
	frames(t, 1, 2, []int{0x1234, 0xABCD, 0}, unhex("01 02 03 34 12 CD AB 00 00 46 82"))
}

func TestFrameLengths(t *testing.T) {
	for n := range api.MaxWords + 1 {
		frames(t, 5, n, many(n), made(5, n, many(n)...))
		if b, _ := bus.Frame(5, n, many(n)); len(b) != 5+2*n {
			t.Errorf("%d words: %d bytes", n, len(b))
		}
	}
	frames(t, 7, 8, []int{}, made(7, 8))
	frames(t, 7, 8, nil, made(7, 8))
}

func TestFrameNumbers(t *testing.T) {
	for station := range api.MaxStation + 1 {
		frames(t, station, 9, []int{1}, made(station, 9, 1))
	}
	for seq := range 256 {
		frames(t, 9, seq, []int{1}, made(9, seq, 1))
	}
	for _, n := range []int{0, 1, 127, 128, 255, 256, 257, 32767, 32768, 65280, 65534, 65535} {
		frames(t, 1, 2, []int{n}, made(1, 2, n))
		frames(t, 1, 2, []int{3, n, 4}, made(1, 2, 3, n, 4))
	}
}

func TestFrameRange(t *testing.T) {
	for _, n := range noStations {
		unframed(t, n, 0, nil, api.ErrRange)
		unframed(t, n, 255, []int{1, 2}, api.ErrRange)
	}
	for _, n := range noSeqs {
		unframed(t, 0, n, nil, api.ErrRange)
		unframed(t, 247, n, []int{1, 2}, api.ErrRange)
	}
	for _, n := range noWords {
		for place := range api.MaxWords {
			words := many(api.MaxWords)
			words[place] = n
			unframed(t, 1, 2, words, api.ErrRange)
		}
		unframed(t, 1, 2, []int{n}, api.ErrRange)
		unframed(t, n, n, []int{n}, api.ErrRange)
	}
}

func TestFrameSize(t *testing.T) {
	for _, n := range []int{61, 62, 120, 255, 256, 257, 316, 65536, 1 << 20} {
		unframed(t, 0, 0, make([]int, n), api.ErrSize)
		unframed(t, 247, 255, make([]int, n), api.ErrSize)
	}
}

// That the station or the sequence number is none is told ahead of too many words, this ahead of words that are none.
func TestFrameFirstError(t *testing.T) {
	over := make([]int, api.MaxWords+1)
	for _, n := range noWords {
		unframed(t, 1, 2, append([]int{n}, many(api.MaxWords)...), api.ErrSize)
		unframed(t, 1, 2, append(many(api.MaxWords), n), api.ErrSize)
		unframed(t, 1, 2, slices.Repeat([]int{n}, 100), api.ErrSize)
	}
	for _, n := range noStations {
		unframed(t, n, 0, over, api.ErrRange)
		unframed(t, n, 0, slices.Repeat([]int{-1}, 61), api.ErrRange)
	}
	for _, n := range noSeqs {
		unframed(t, 0, n, over, api.ErrRange)
		unframed(t, 248, n, over, api.ErrRange)
	}
}
