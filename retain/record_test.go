package retain_test

import (
	"slices"
	"testing"

	"plantwright/api"
	"plantwright/retain"
)

// The chapter's example, and others, byte by byte.
func TestRecord(t *testing.T) {
	records(t, []int{1, 2}, 5, unhex("50 57 52 31 05 00 00 00 02 00 00 00 cf 10 69 70 01 00 00 00 02 00 00 00 7c 17 81 03"))
	records(t, nil, 0, unhex("50 57 52 31 00 00 00 00 00 00 00 00 20 d6 80 92 00 00 00 00"))
	records(t, []int{0x12345678}, 0x9ABCDEF0, unhex("50 57 52 31 f0 de bc 9a 01 00 00 00 a8 31 15 d8 78 56 34 12 d2 87 6d af"))
	records(t, []int{0, 4294967295}, 4294967295, unhex("50 57 52 31 ff ff ff ff 02 00 00 00 3d 3e 54 a2 00 00 00 00 ff ff ff ff 8a ff 99 bb"))
}

func TestRecordLengths(t *testing.T) {
	for _, n := range []int{0, 1, 2, 3, 4, 5, 63, 64, 255, 256, 257, api.MaxKept - 1, api.MaxKept} {
		records(t, many(n), n, made(n, many(n)...))
		if b, _ := retain.Record(many(n), n); len(b) != 20+4*n {
			t.Errorf("%d words: %d bytes", n, len(b))
		}
	}
	records(t, []int{}, 7, made(7))
	records(t, nil, 7, made(7))
}

// Words and serials at the edges: each of their bytes has its place.
func TestRecordNumbers(t *testing.T) {
	edges := []int{0, 1, 2, 127, 128, 255, 256, 65535, 65536, 1 << 24, 1<<31 - 1, 1 << 31, 1<<31 + 1, api.MaxNumber - 1, api.MaxNumber}
	for _, n := range edges {
		records(t, edges, n, made(n, edges...))
		records(t, []int{n}, 3, made(3, n))
		records(t, []int{3, n, 4}, n, made(n, 3, n, 4))
	}
}

func TestTooManyWords(t *testing.T) {
	for _, n := range []int{api.MaxKept + 1, api.MaxKept + 2, 2 * api.MaxKept, 65536, 1 << 20} {
		unrecorded(t, make([]int, n), 0, api.ErrSize)
		unrecorded(t, make([]int, n), api.MaxNumber, api.ErrSize)
	}
}

func TestNoNumbers(t *testing.T) {
	for _, n := range noNumbers {
		unrecorded(t, nil, n, api.ErrRange)
		unrecorded(t, []int{1, 2}, n, api.ErrRange)
		unrecorded(t, []int{n}, 0, api.ErrRange)
		unrecorded(t, []int{n, 1, 2}, 1, api.ErrRange)
		unrecorded(t, []int{1, n, 2}, 1, api.ErrRange)
		unrecorded(t, []int{1, 2, n}, 1, api.ErrRange)
		unrecorded(t, append(many(api.MaxKept-1), n), 1, api.ErrRange)
		unrecorded(t, []int{n}, n, api.ErrRange)
	}
}

// That there are too many words is told ahead of what is wrong with them, or with the serial.
func TestRecordFirstError(t *testing.T) {
	for _, n := range noNumbers {
		unrecorded(t, append(many(api.MaxKept), n), 0, api.ErrSize)
		unrecorded(t, append([]int{n}, many(api.MaxKept)...), 0, api.ErrSize)
		unrecorded(t, many(api.MaxKept+1), n, api.ErrSize)
		unrecorded(t, slices.Repeat([]int{n}, api.MaxKept+1), n, api.ErrSize)
	}
}
