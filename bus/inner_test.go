package bus

import (
	"math/bits"
	"testing"
)

// divided: the same sum by another way: bits from the highest on, put in order at the end.
func divided(b []byte) int {
	register := uint16(65535)
	for _, x := range b {
		register ^= uint16(bits.Reverse8(x)) << 8
		for range 8 {
			out := register >> 15
			register = register<<1 ^ out*0x8005
		}
	}
	return int(bits.Reverse16(register))
}

// What the chapter says of nine bytes, which no frame has; sums that are known; and sums of lists of all small lengths.
func TestSum(t *testing.T) {
	for s, want := range map[string]int{
		"":                         0xFFFF,
		"123456789":                0x4B37,
		"\x11\x03\x00\x6B\x00\x03": 0x8776,
		"\x01\x04\x02\xFF\xFF":     0x80B8,
	} {
		if got := sum([]byte(s)); got != want {
			t.Errorf("of % x: %x, not %x", s, got, want)
		}
	}
	var b []byte
	for i := range 600 {
		if got, want := sum(b), divided(b); got != want {
			t.Errorf("of %d bytes: %x, not %x", len(b), got, want)
		}
		b = append(b, byte(i*i+i/7))
	}
}

func TestBounds(t *testing.T) {
	for _, x := range []struct {
		n, low, high int
		want         bool
	}{{5, 5, 5, true}, {4, 5, 5, false}, {6, 5, 5, false}, {0, 0, 9, true}, {9, 0, 9, true}, {-1, 0, 9, false}, {10, 0, 9, false}, {0, 0, -1, false}, {-3, -5, -2, true}} {
		if got := isWithin(x.n, x.low, x.high); got != x.want {
			t.Errorf("%v: %v", x, got)
		}
		for place := range 3 {
			list := []int{x.low, x.low, x.high}
			list[place] = x.n
			if got := areWithin(list, x.low, x.high); got != x.want {
				t.Errorf("%v from %d to %d: %v", list, x.low, x.high, got)
			}
		}
	}
	if !isWithin[byte](255, 128, 255) || isWithin[byte](127, 128, 255) || isWithin[byte](248, 0, 247) || !areWithin[byte](nil, 1, 0) {
		t.Error("bytes")
	}
}
