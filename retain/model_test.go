package retain_test

import (
	"bytes"
	"encoding/binary"
	"slices"
	"testing"

	"plantwright/api"
)

// modelRead: as the chapter says it, with the library's sums.
func modelRead(slot []byte) ([]int, int, api.Errno) {
	if len(slot) < 16 || string(slot[:4]) != "PWR1" {
		return nil, 0, api.ErrLost
	}
	if !bytes.Equal(withSum(slot[:12]), slot[:16]) {
		return nil, 0, api.ErrSum
	}
	count := int(binary.LittleEndian.Uint32(slot[8:]))
	if count > api.MaxKept || len(slot) < 16+4*count+4 {
		return nil, 0, api.ErrSize
	}
	if !bytes.Equal(withSum(slot[16:16+4*count]), slot[16:16+4*count+4]) {
		return nil, 0, api.ErrSum
	}
	var words []int
	for i := range count {
		words = append(words, int(binary.LittleEndian.Uint32(slot[16+4*i:])))
	}
	return words, int(binary.LittleEndian.Uint32(slot[4:])), api.OK
}

// drawn: a slot with a record in it, or with one that was spoilt in one way or another.
func drawn(d *die) []byte {
	words := many(d.n(5))
	for i := range words {
		words[i] = []int{d.n(9), api.MaxNumber, d.n(1 << 31)}[d.n(3)]
	}
	serial := []int{d.n(3), 1<<31 - 1 + d.n(3), api.MaxNumber - d.n(2), d.n(1<<31) << 1}[d.n(4)]
	b := made(serial, words...)
	switch d.n(12) {
	case 0:
		b = turned(b, d.n(8*len(b)))
	case 1:
		b = b[:d.n(len(b)+1)]
	case 2:
		b = append(b, make([]byte, d.n(9))...)
	case 3:
		b = append(headOf(serial, d.n(9)), b[16:]...)
	case 4:
		b = append(headOf(serial, []int{api.MaxKept + 1, api.MaxNumber, 1 << 30}[d.n(3)]), b[16:]...)
	case 5:
		b = bytes.Repeat([]byte{byte(d.n(256))}, d.n(40))
	case 6:
		b[d.n(len(b))] = 255
	}
	return b
}

// Slots as they come, held against the chapter's words.
func TestModel(t *testing.T) {
	d := die(5)
	told := map[api.Errno]int{}
	for range 20000 {
		a, b := drawn(&d), drawn(&d)
		words0, serial0, e0 := modelRead(a)
		words1, serial1, e1 := modelRead(b)
		told[e0]++
		if e0 == api.OK {
			reads(t, a, serial0, words0...)
		} else {
			unread(t, a, e0)
		}
		way := (serial1 - serial0 + 4294967296) % 4294967296
		switch {
		case e0 != api.OK && e1 != api.OK:
			noNewest(t, a, b)
			saves(t, a, b, words0, 0, 1)
		case e0 != api.OK || e1 == api.OK && way >= 1 && way <= 2147483647:
			isNewest(t, a, b, 1, words1...)
			saves(t, a, b, []int{1, 2}, 0, (serial1+1)%4294967296)
		default:
			isNewest(t, a, b, 0, words0...)
			saves(t, a, b, slices.Concat(words0, words0), 1, (serial0+1)%4294967296)
		}
	}
	for _, e := range []api.Errno{api.OK, api.ErrLost, api.ErrSum, api.ErrSize} {
		if told[e] < 500 {
			t.Error("too few of each kind: ", told)
		}
	}
}
