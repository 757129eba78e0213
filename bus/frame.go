package bus

import "plantwright/api"

// The bytes of a frame, and where in its head they stand.
const (
	stationAt = 0
	seqAt     = 1
	countAt   = 2
	headSize  = 3
	pairSize  = 2
)

// Numbers of one byte and of two.
const (
	maxSeq  = 255
	maxWord = 65535
)

// frameSize: that of a frame of so many words, with its sum.
func frameSize(count int) int {
	return headSize + (count+1)*pairSize
}

// lookAt: what is wrong with words.
func lookAt(words []int) api.Errno {
	if len(words) > api.MaxWords {
		return api.ErrSize
	}
	if !areWithin(words, 0, maxWord) {
		return api.ErrRange
	}
	return api.OK
}

// lookAtFrame: what is wrong with the bytes of a frame.
func lookAtFrame(b []byte) api.Errno {
	switch {
	case len(b) < frameSize(0) || len(b) != frameSize(int(b[countAt])):
		return api.ErrSize
	case !isRight(b):
		return api.ErrSum
	case !isWithin(b[stationAt], 0, api.MaxStation):
		return api.ErrRange
	case !isWithin(b[countAt], 0, api.MaxWords):
		return api.ErrSize
	}
	return api.OK
}

// isRight: is the number with which a frame ends the sum of what stands ahead of it?
func isRight(b []byte) bool {
	end := len(b) - pairSize
	return pair(b[end:]) == sum(b[:end])
}

// putBytes puts down numbers of one byte each.
func putBytes(b []byte, numbers ...int) []byte {
	for _, n := range numbers {
		b = append(b, byte(n))
	}
	return b
}

// putPairs puts down numbers of two bytes each, the lower one first.
func putPairs(b []byte, numbers ...int) []byte {
	for _, n := range numbers {
		b = putBytes(b, n, n>>8)
	}
	return b
}

// pair: the number of two bytes with which bytes begin.
func pair(b []byte) int {
	return int(b[0]) | int(b[1])<<8
}

// pairs: so many of these.
func pairs(b []byte, count int) []int {
	list := make([]int, count)
	for i := range list {
		list[i] = pair(b[i*pairSize:])
	}
	return list
}
