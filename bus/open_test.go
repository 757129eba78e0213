package bus_test

import (
	"slices"
	"testing"

	"plantwright/api"
	"plantwright/bus"
)

func TestOpen(t *testing.T) {
	opens(t, unhex("03 09 02 01 00 02 01 90 05"), 3, 9, 1, 258)
	opens(t, unhex("00 00 00 71 C0"), 0, 0)
	opens(t, unhex("F7 FF 01 FF FF B1 B1"), 247, 255, 65535)
	for n := range api.MaxWords + 1 {
		opens(t, made(5, n, many(n)...), 5, n, many(n)...)
	}
	for station := range api.MaxStation + 1 {
		opens(t, made(station, 9, 1), station, 9, 1)
	}
	for seq := range 256 {
		opens(t, made(9, seq, 256*seq+1), 9, seq, 256*seq+1)
	}
}

// What is framed is opened again.
func TestWhatIsFramedIsOpened(t *testing.T) {
	d := die(1)
	for range 5000 {
		words := make([]int, d.n(api.MaxWords+1))
		for i := range words {
			words[i] = d.n(65536)
		}
		station, seq := d.n(api.MaxStation+1), d.n(256)
		b, e := bus.Frame(station, seq, words)
		if e != api.OK {
			t.Fatal(station, seq, words, e)
		}
		opens(t, b, station, seq, words...)
	}
}

func TestOpenSize(t *testing.T) {
	unopened(t, nil, api.ErrSize)
	for _, n := range []int{0, 1, 2, 5, api.MaxWords} {
		b := made(3, 9, many(n)...)
		for end := range len(b) {
			unopened(t, b[:end], api.ErrSize)
			unopened(t, slices.Clone(b[:end]), api.ErrSize)
		}
		for _, more := range []int{1, 2, 3, 4, 512, 65536, 1 << 20} {
			unopened(t, append(slices.Clone(b), make([]byte, more)...), api.ErrSize)
		}
		unopened(t, append(slices.Clone(b), b...), api.ErrSize)
		unopened(t, b[1:], api.ErrSize)
	}
	unopened(t, withSum([]byte{3, 9}), api.ErrSize)
	unopened(t, withSum([]byte{}), api.ErrSize)
}

// The third byte says how many bytes there are, even if the sum is right.
func TestOpenCount(t *testing.T) {
	for count := range 256 {
		for _, size := range []int{3, 4, 5, 6, 7, max(3, 2*count+2), 2*count + 3, 2*count + 4} {
			b := make([]byte, size)
			b[2] = byte(count)
			switch {
			case size != 2*count+3:
				unopened(t, withSum(b), api.ErrSize)
			case count <= api.MaxWords:
				opens(t, withSum(b), 0, 0, make([]int, count)...)
			}
		}
	}
}

// Each bit counts: those of the third byte make the size wrong, all others the sum.
func TestOpenSum(t *testing.T) {
	for _, b := range [][]byte{made(3, 9, 1, 258), made(0, 0), made(247, 255, many(api.MaxWords)...)} {
		for bit := range 8 * len(b) {
			want := api.ErrSum
			if bit/8 == 2 {
				want = api.ErrSize
			}
			unopened(t, turned(b, bit), want)
		}
	}
	b := made(3, 9, 1, 258)
	slices.Reverse(b[7:])
	unopened(t, b, api.ErrSum)
	for _, sum := range []string{"00 00", "FF FF"} {
		unopened(t, append(made(3, 9, 1, 258)[:7], unhex(sum)...), api.ErrSum)
		unopened(t, append(made(3, 9)[:3], unhex(sum)...), api.ErrSum)
	}
	unopened(t, make([]byte, 5), api.ErrSum)
}

func TestOpenStation(t *testing.T) {
	for station := api.MaxStation + 1; station < 256; station++ {
		for _, n := range []int{0, 1, api.MaxWords} {
			unopened(t, made(station, 9, many(n)...), api.ErrRange)
		}
	}
}

func TestOpenTooMany(t *testing.T) {
	for n := api.MaxWords + 1; n < 256; n++ {
		unopened(t, made(3, 9, many(n)...), api.ErrSize)
		unopened(t, made(247, 255, make([]int, n)...), api.ErrSize)
	}
}

// Sizes ahead of the sum, that ahead of the station, this ahead of too many words.
func TestOpenFirstError(t *testing.T) {
	for _, n := range []int{0, 2, 60, 61, 255} {
		b := made(250, 9, many(n)...)
		unopened(t, b[:len(b)-1], api.ErrSize)
		unopened(t, append(slices.Clone(b), 0), api.ErrSize)
		unopened(t, turned(b, 16), api.ErrSize)
		for bit := range 16 {
			unopened(t, turned(b, bit), api.ErrSum)
			unopened(t, turned(b, 8*len(b)-1-bit), api.ErrSum)
			unopened(t, turned(b, 8*len(b)-1-bit)[:len(b)-1], api.ErrSize)
		}
		unopened(t, b, api.ErrRange)
	}
	over := made(3, 9, many(61)...)
	unopened(t, turned(over, 8), api.ErrSum)
	unopened(t, over[:len(over)-2], api.ErrSize)
}

// burst: a frame of which bits of a mask are turned, from a bit on, the lowest bit of a byte being its first.
func burst(b []byte, from int, mask uint16) []byte {
	b = slices.Clone(b)
	for i := range 16 {
		if mask>>i&1 == 1 {
			b[(from+i)/8] ^= 1 << ((from + i) % 8)
		}
	}
	return b
}

// Whatever bits are turned within 16 neighbouring ones, it is not heard: all of them, wherever, of a short frame.
func TestBursts(t *testing.T) {
	b := made(3, 9, 1, 258)
	for from := range 8*len(b) - 15 {
		for mask := 1; mask < 65536; mask++ {
			if s, q, w, e := bus.Open(burst(b, from, uint16(mask))); e == api.OK || s != 0 || q != 0 || len(w) > 0 {
				t.Fatalf("bits %x from %d on: %d, %d, %v, %v", mask, from, s, q, w, e)
			}
		}
	}
}

// Likewise of long ones, and what a link has of it.
func TestBurstsAreNotTaken(t *testing.T) {
	d := die(2)
	for _, n := range []int{0, 1, 30, api.MaxWords} {
		l := api.Link{Station: 3, Watch: 5, Safe: make([]int, n), Words: many(n), Seq: 8, Age: 2, Fresh: true}
		b := made(3, 9, many(n)...)
		for range 3000 {
			spoilt := burst(b, d.n(8*len(b)-15), uint16(1+d.n(65535)))
			if got, e := bus.Take(l, spoilt); e != api.ErrSum && e != api.ErrSize || !alike(got, l) {
				t.Fatalf("Take(%v, % x): %v, %v", l, spoilt, got, e)
			}
		}
	}
}
