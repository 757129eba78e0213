package retain_test

import (
	"slices"
	"testing"

	"plantwright/api"
)

// Where nothing is, slot 0 is the first, with the serial 1.
func TestSaveFirst(t *testing.T) {
	for _, a := range noRecords() {
		for _, b := range noRecords() {
			saves(t, a, b, []int{1, 2}, 0, 1)
			saves(t, a, b, nil, 0, 1)
		}
	}
}

// A slot that says nothing is taken, with the serial behind that of the other one.
func TestSaveIntoTheOther(t *testing.T) {
	for _, no := range noRecords() {
		for serial, next := range map[int]int{0: 1, 1: 2, 5: 6, 255: 256, 1<<31 - 1: 1 << 31, 1 << 31: 1<<31 + 1, 4294967294: 4294967295, 4294967295: 0} {
			saves(t, made(serial, 7), no, []int{1, 2}, 1, next)
			saves(t, no, made(serial, 7), []int{1, 2}, 0, next)
		}
	}
}

func TestSaveOverTheOlder(t *testing.T) {
	for _, x := range [][4]int{ // two serials; the slot that is written, and its serial
		{1, 2, 0, 3}, {2, 1, 1, 3}, {5, 5, 1, 6}, {0, 0, 1, 1}, {9, 4, 1, 10}, {4, 9, 0, 10},
		{4294967295, 0, 0, 1}, {0, 4294967295, 1, 1}, {4294967294, 4294967295, 0, 0}, {4294967295, 4294967294, 1, 0}, {4294967295, 4294967295, 1, 0},
		{0, 2147483647, 0, 2147483648}, {0, 2147483648, 1, 1}, {2147483648, 0, 1, 2147483649}, {2147483649, 0, 0, 1},
	} {
		for _, words := range [][]int{nil, {}, {7}, {0, 4294967295, 5}, many(api.MaxKept)} {
			saves(t, made(x[0], 1), made(x[1], 2, 3), words, x[2], x[3])
			saves(t, append(made(x[0]), 255, 255), append(made(x[1], many(50)...), 0), words, x[2], x[3])
		}
	}
}

// What is wrong with the words is told whatever slots have.
func TestSaveErrors(t *testing.T) {
	slots := append(noRecords(), made(5, 1, 2), made(0), made(api.MaxNumber, 3))
	for _, a := range slots {
		for _, b := range slots {
			unsaved(t, a, b, make([]int, api.MaxKept+1), api.ErrSize)
			unsaved(t, a, b, append(make([]int, api.MaxKept), -1), api.ErrSize)
			for _, n := range noNumbers {
				unsaved(t, a, b, []int{n}, api.ErrRange)
			}
		}
	}
	for _, n := range noNumbers {
		unsaved(t, nil, nil, []int{n, 1}, api.ErrRange)
		unsaved(t, nil, nil, []int{1, n}, api.ErrRange)
		unsaved(t, nil, nil, append(many(api.MaxKept-1), n), api.ErrRange)
		unsaved(t, nil, nil, slices.Repeat([]int{n}, api.MaxKept+1), api.ErrSize)
	}
	unsaved(t, nil, nil, make([]int, 1<<20), api.ErrSize)
}
