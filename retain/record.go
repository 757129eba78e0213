package retain

import (
	"slices"

	"plantwright/api"
)

// The bytes of a record, and where in its head they stand.
const (
	numberSize = 4
	serialAt   = 4
	countAt    = 8
	headSize   = 16
)

// begin: the bytes that every record begins with.
var begin = [4]byte{'P', 'W', 'R', '1'}

// lookAt: what is wrong with words and a serial.
func lookAt(words []int, serial int) api.Errno {
	if len(words) > api.MaxKept {
		return api.ErrSize
	}
	if !fits(serial) || slices.ContainsFunc(words, func(word int) bool { return !fits(word) }) {
		return api.ErrRange
	}
	return api.OK
}

func fits(n int) bool {
	return n >= 0 && n <= api.MaxNumber
}

// bodySize: that of so many words with their sum.
func bodySize(count int) int {
	return (count + 1) * numberSize
}

// writer puts down bytes, one behind the other.
type writer struct {
	bytes []byte
}

// number: its lowest byte first.
func (w *writer) number(n int) {
	for range numberSize {
		w.bytes = append(w.bytes, byte(n))
		n >>= 8
	}
}

// parts: the head of a record, and what stands behind it. No two lists that are told may share memory, so they are made apart.
func parts(words []int, serial int) (head, body []byte) {
	first := begin
	return summed(first[:], []int{serial, len(words)}), summed(nil, words)
}

// summed: some bytes, then numbers, then the sum of all these.
func summed(first []byte, list []int) []byte {
	w := writer{bytes: first}
	each(list, w.number)
	w.number(sum(w.bytes))
	return w.bytes
}

func each(list []int, do func(int)) {
	for _, n := range list {
		do(n)
	}
}

// isRecord: does a slot begin as a record does?
func isRecord(slot []byte) bool {
	var first [4]byte
	copy(first[:], slot)
	return first == begin
}

// isRight: is the number with which a part ends the sum of what stands ahead of it?
func isRight(part []byte) bool {
	end := len(part) - numberSize
	return number(part[end:]) == sum(part[:end])
}

// number: the one with which bytes begin.
func number(b []byte) int {
	n := 0
	for i := range numberSize {
		n |= int(b[i]) << (8 * i)
	}
	return n
}

// numbers: so many, with which bytes begin.
func numbers(b []byte, count int) []int {
	list := make([]int, count)
	for i := range list {
		list[i] = number(b[i*numberSize:])
	}
	return list
}
