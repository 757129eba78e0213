package retain_test

import (
	"bytes"
	"testing"

	"plantwright/api"
)

// noRecords: slots of each of which Read has an error.
func noRecords() [][]byte {
	b := made(5, 1, 2)
	return [][]byte{
		nil, {}, []byte("PWR1"), b[:15], make([]byte, 100), bytes.Repeat([]byte{255}, 100), turned(b, 0), // ErrLost
		turned(b, 32), turned(b, 127), // ErrSum
		b[:16], b[:27], made(5, many(api.MaxKept+1)...), // ErrSize
		turned(b, 128), turned(b, 8*len(b)-1), // ErrSum
	}
}

func TestNewestOfNone(t *testing.T) {
	for _, a := range noRecords() {
		for _, b := range noRecords() {
			noNewest(t, a, b)
		}
	}
}

// One that is no record does not count, whatever the serial of the other one.
func TestNewestOfOne(t *testing.T) {
	for _, no := range noRecords() {
		for _, serial := range []int{0, 1, 4, 5, 6, 1<<31 - 1, 1 << 31, 1<<31 + 5, api.MaxNumber} {
			isNewest(t, made(serial, 7, 8), no, 0, 7, 8)
			isNewest(t, no, made(serial, 7, 8), 1, 7, 8)
			isNewest(t, made(serial), no, 0)
			isNewest(t, no, made(serial), 1)
		}
	}
}

func TestNewestOfTwo(t *testing.T) {
	for _, x := range [][3]int{
		{0, 0, 0}, {0, 1, 1}, {1, 0, 0}, {1, 2, 1}, {2, 1, 0}, {5, 5, 0}, {5, 7, 1}, {7, 5, 0},
		{4294967295, 0, 1}, {0, 4294967295, 0}, {4294967295, 1, 1}, {4294967294, 4294967295, 1}, {4294967295, 4294967294, 0}, {4294967295, 4294967295, 0},
		{0, 2147483646, 1}, {0, 2147483647, 1}, {0, 2147483648, 0}, {0, 2147483649, 0},
		{2147483646, 0, 0}, {2147483647, 0, 0}, {2147483648, 0, 0}, {2147483649, 0, 1}, {2147483650, 0, 1},
		{5, 2147483652, 1}, {5, 2147483653, 0}, {5, 2147483654, 0}, {2147483652, 5, 0}, {2147483653, 5, 0}, {2147483654, 5, 1},
		{4294967295, 2147483646, 1}, {4294967295, 2147483647, 0}, {2147483647, 4294967294, 1}, {2147483647, 4294967295, 0},
	} {
		words := [][]int{{10, 11, 12}, {20}}
		isNewest(t, made(x[0], words[0]...), made(x[1], words[1]...), x[2], words[x[2]]...)
		behind := bytes.Repeat([]byte{255}, 50)
		isNewest(t, append(made(x[0], words[0]...), behind...), append(made(x[1], words[1]...), behind...), x[2], words[x[2]]...)
		words = [][]int{nil, many(api.MaxKept)}
		isNewest(t, made(x[0], words[0]...), made(x[1], words[1]...), x[2], words[x[2]]...)
	}
}

// Serials that lie some way from each other, anywhere.
func TestNewestModel(t *testing.T) {
	d := die(2)
	told := [2]int{}
	for range 20000 {
		first := []int{d.n(4), 1<<31 - 2 + d.n(4), api.MaxNumber - d.n(4), d.n(1<<31) << 1}[d.n(4)]
		way := []int{d.n(4), 1<<31 - 2 + d.n(4), api.MaxNumber - d.n(4), d.n(1<<31) << 1}[d.n(4)]
		second := (first + way) % 4294967296
		slot := 0
		if way >= 1 && way <= 2147483647 {
			slot = 1
		}
		isNewest(t, made(first, 0), made(second, 1), slot, slot)
		told[slot]++
	}
	if told[0] < 1000 || told[1] < 1000 {
		t.Error("too few of each kind: ", told)
	}
}

// Both slots may be the same memory.
func TestNewestOfOneTwice(t *testing.T) {
	b := made(5, 1, 2)
	isNewest(t, b, b, 0, 1, 2)
	saves(t, b, b, []int{3}, 1, 6)
}
