package retain_test

import (
	"bytes"
	"slices"
	"testing"

	"plantwright/api"
	"plantwright/retain"
)

func TestRead(t *testing.T) {
	reads(t, unhex("50 57 52 31 05 00 00 00 02 00 00 00 cf 10 69 70 01 00 00 00 02 00 00 00 7c 17 81 03"), 5, 1, 2)
	reads(t, unhex("50 57 52 31 00 00 00 00 00 00 00 00 20 d6 80 92 00 00 00 00"), 0)
	for _, n := range []int{0, 1, 2, 3, 63, 255, 256, 257, api.MaxKept - 1, api.MaxKept} {
		reads(t, made(n, many(n)...), n, many(n)...)
	}
	for _, n := range []int{0, 1, 127, 128, 255, 256, 65536, 1<<31 - 1, 1 << 31, api.MaxNumber - 1, api.MaxNumber} {
		reads(t, made(n, n, 5, n), n, n, 5, n)
	}
}

// What is recorded is read again.
func TestWhatIsRecordedIsRead(t *testing.T) {
	d := die(1)
	for range 2000 {
		words := make([]int, d.n(40))
		for i := range words {
			words[i] = d.n(1<<31)<<1 + d.n(2)
		}
		serial := d.n(1<<31)<<1 + d.n(2)
		b, e := retain.Record(words, serial)
		if e != api.OK {
			t.Fatal(words, serial, e)
		}
		reads(t, b, serial, words...)
	}
}

// What stands behind a record is not looked at, whatever it is.
func TestReadBehind(t *testing.T) {
	for _, n := range []int{0, 1, 2, api.MaxKept} {
		b := made(9, many(n)...)
		for _, behind := range [][]byte{{0}, {255}, {1, 2, 3, 4}, made(10, 1, 2), b, bytes.Repeat([]byte{255}, 10000), make([]byte, 1<<20)} {
			reads(t, slices.Concat(b, behind), 9, many(n)...)
		}
	}
}

func TestReadLost(t *testing.T) {
	unread(t, nil, api.ErrLost)
	whole := made(5, 1, 2)
	for n := range 16 {
		unread(t, whole[:n], api.ErrLost)
		unread(t, make([]byte, n), api.ErrLost)
		unread(t, bytes.Repeat([]byte{255}, n), api.ErrLost)
	}
	for _, n := range []int{16, 17, 20, 28, 10000} {
		unread(t, make([]byte, n), api.ErrLost)
		unread(t, bytes.Repeat([]byte{255}, n), api.ErrLost)
	}
	unread(t, append([]byte{0}, whole...), api.ErrLost)
	unread(t, whole[1:], api.ErrLost)
	unread(t, whole[16:], api.ErrLost)
}

// marked: a record that is right but that it begins with other bytes.
func marked(first string) []byte {
	return append(withSum(append([]byte(first), headOf(5, 2)[4:12]...)), bodyOf(1, 2)...)
}

// Each bit of the first four bytes counts, even if the CRC is right.
func TestReadMark(t *testing.T) {
	reads(t, marked("PWR1"), 5, 1, 2)
	for _, s := range []string{"pwr1", "PWR2", "PWR0", "PWRl", "1RWP", "QWR1", "PVR1", "PWS1", "\x00\x00\x00\x00", "\xff\xff\xff\xff"} {
		unread(t, marked(s), api.ErrLost)
	}
	for bit := range 32 {
		unread(t, turned(made(5, 1, 2), bit), api.ErrLost)
		unread(t, marked(string(turned([]byte("PWR1"), bit))), api.ErrLost)
	}
}

// Each bit of the head behind these counts, of the serial, the number of words and the CRC.
func TestReadHeadSum(t *testing.T) {
	for _, b := range [][]byte{made(5, 1, 2), made(0), made(api.MaxNumber, many(api.MaxKept)...)} {
		for bit := 32; bit < 128; bit++ {
			unread(t, turned(b, bit), api.ErrSum)
		}
	}
	b := made(5, 1, 2)
	slices.Reverse(b[12:16])
	unread(t, b, api.ErrSum)
	copy(b[12:], []byte{0, 0, 0, 0})
	unread(t, b, api.ErrSum)
}

// Heads that are right of numbers of words that are not.
func TestReadTooMany(t *testing.T) {
	over := many(api.MaxKept + 1)
	unread(t, made(5, over...), api.ErrSize)
	unread(t, made(5, many(3*api.MaxKept)...), api.ErrSize)
	// Four times some of these is next to nothing in 32 bits.
	for _, count := range []int{api.MaxKept + 1, 65536, 1<<30 - 1, 1 << 30, 1<<30 + 2, 1<<31 - 1, 1 << 31, 1<<31 + 2, 3 << 30, api.MaxNumber - 1, api.MaxNumber} {
		for _, body := range [][]byte{nil, bodyOf(), bodyOf(1, 2), bodyOf(over...), make([]byte, 9)} {
			unread(t, append(headOf(5, count), body...), api.ErrSize)
		}
	}
}

func TestReadEndsWithin(t *testing.T) {
	for _, n := range []int{0, 1, 2, 5, 100} {
		b := made(5, many(n)...)
		for end := 16; end < len(b); end++ {
			unread(t, b[:end], api.ErrSize)
			unread(t, slices.Clone(b[:end]), api.ErrSize)
		}
		reads(t, b, 5, many(n)...)
	}
	b := made(5, many(api.MaxKept)...)
	unread(t, b[:len(b)-1], api.ErrSize)
	unread(t, append(headOf(5, 3), bodyOf(1, 2)...), api.ErrSize)
}

// Each bit of the words and of their CRC counts.
func TestReadWordsSum(t *testing.T) {
	for _, n := range []int{0, 1, 2, 10} {
		b := made(5, many(n)...)
		for bit := 128; bit < 8*len(b); bit++ {
			unread(t, turned(b, bit), api.ErrSum)
		}
	}
	long := made(5, many(api.MaxKept)...)
	for _, bit := range []int{128, 128 + 32*1000, 8*len(long) - 33, 8*len(long) - 32, 8*len(long) - 1} {
		unread(t, turned(long, bit), api.ErrSum)
	}
	unread(t, append(headOf(5, 1), bodyOf(1, 2)...), api.ErrSum)
	unread(t, slices.Concat(headOf(5, 2), bodyOf(1, 2)[:8], withSum(made(5, 1, 2)[:24])[24:]), api.ErrSum) // the CRC of all that stands ahead
}

// What is lost is told ahead of the head's CRC, that ahead of sizes, these ahead of the words' CRC.
func TestReadFirstError(t *testing.T) {
	for bit := 32; bit < 128; bit++ {
		unread(t, turned(turned(made(5, 1, 2), 9), bit), api.ErrLost)
		unread(t, turned(made(5, 1, 2), bit)[:15], api.ErrLost)
		unread(t, turned(made(5, many(api.MaxKept+1)...), bit), api.ErrSum)
		unread(t, turned(headOf(5, api.MaxNumber), bit), api.ErrSum)
		for end := 16; end < 28; end++ {
			unread(t, turned(made(5, 1, 2), bit)[:end], api.ErrSum)
		}
	}
	for bit := 128; bit < 200; bit++ {
		unread(t, turned(made(5, 1, 2), bit)[:27], api.ErrSize)
		unread(t, turned(made(5, many(api.MaxKept+1)...), bit), api.ErrSize)
		unread(t, turned(turned(made(5, 1, 2), bit), 100), api.ErrSum)
	}
}
