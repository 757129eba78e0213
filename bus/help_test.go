package bus_test

import (
	"bytes"
	"encoding/binary"
	"encoding/hex"
	"math"
	"math/bits"
	"slices"
	"strings"
	"testing"

	"plantwright/api"
	"plantwright/bus"
)

// die gives numbers that look drawn, the same each time.
type die uint64

func (d *die) n(most int) int {
	*d = *d*6364136223846793005 + 1442695040888963407
	return int(uint64(*d>>33) % uint64(most))
}

// unhex: bytes that are written as hexadecimal numbers, with blanks between them.
func unhex(s string) []byte {
	b, err := hex.DecodeString(strings.ReplaceAll(s, " ", ""))
	if err != nil {
		panic(err)
	}
	return b
}

// withSum: bytes with their sum behind them, reckoned by another way than the program's.
func withSum(b []byte) []byte {
	register := uint16(65535)
	for _, x := range b {
		register ^= uint16(bits.Reverse8(x)) << 8
		for range 8 {
			register = register<<1 ^ register>>15*0x8005
		}
	}
	return binary.LittleEndian.AppendUint16(slices.Clone(b), bits.Reverse16(register))
}

// made: a frame that is right, made without the program, of any station and of up to 255 words.
func made(station, seq int, words ...int) []byte {
	b := []byte{byte(station), byte(seq), byte(len(words))}
	for _, w := range words {
		b = binary.LittleEndian.AppendUint16(b, uint16(w))
	}
	return withSum(b)
}

// many: so many words.
func many(n int) []int {
	l := make([]int, n)
	for i := range l {
		l[i] = i * 7919 % 65536
	}
	return l
}

// turned: bytes of which one bit is turned.
func turned(b []byte, bit int) []byte {
	b = slices.Clone(b)
	b[bit/8] ^= 1 << (bit % 8)
	return b
}

// Numbers that are no station, no sequence number, no word, no watch. Cut to a byte, or to two, some of them would be.
var (
	far        = []int{-1, -2, -255, -256, -65536, 65536, 65537, 1 << 20, 1 << 32, 1<<32 + 1, -1 << 32, math.MinInt, math.MinInt + 1, math.MaxInt, math.MaxInt - 1}
	noStations = append([]int{api.MaxStation + 1, 255, 256, 257, 65535}, far...)
	noSeqs     = append([]int{256, 257, 511, 512, 65535}, far...)
	noWords    = far
	noWatches  = append([]int{0, api.MaxWatch + 1, 1024, 65535}, far...)
)

// frames: does Frame tell these bytes?
func frames(t *testing.T, station, seq int, words []int, want []byte) {
	t.Helper()
	if got, e := bus.Frame(station, seq, words); e != api.OK || !bytes.Equal(got, want) {
		t.Errorf("Frame(%d, %d, %v): % x, %v, not % x", station, seq, words, got, e, want)
	}
}

// unframed: does Frame tell nothing but this error?
func unframed(t *testing.T, station, seq int, words []int, want api.Errno) {
	t.Helper()
	if got, e := bus.Frame(station, seq, words); e != want || len(got) > 0 {
		t.Errorf("Frame(%d, %d, %v): % x, %v, not %v", station, seq, words, got, e, want)
	}
}

// opens: does Open tell this station, this sequence number and these words?
func opens(t *testing.T, b []byte, station, seq int, words ...int) {
	t.Helper()
	if s, q, w, e := bus.Open(b); e != api.OK || s != station || q != seq || !slices.Equal(w, words) {
		t.Errorf("Open(% x): %d, %d, %v, %v, not %d, %d, %v", b, s, q, w, e, station, seq, words)
	}
}

// unopened: does Open tell nothing but this error?
func unopened(t *testing.T, b []byte, want api.Errno) {
	t.Helper()
	if s, q, w, e := bus.Open(b); e != want || s != 0 || q != 0 || len(w) > 0 {
		t.Errorf("Open(% x): %d, %d, %v, %v, not %v", b, s, q, w, e, want)
	}
}

// alike: are two links the same? A list without elements may be nil or not.
func alike(a, b api.Link) bool {
	return a.Station == b.Station && a.Watch == b.Watch && slices.Equal(a.Safe, b.Safe) && slices.Equal(a.Words, b.Words) && a.Seq == b.Seq && a.Age == b.Age && a.Fresh == b.Fresh
}

// twin: the same link, of other memory.
func twin(l api.Link) api.Link {
	l.Safe, l.Words = slices.Clone(l.Safe), slices.Clone(l.Words)
	return l
}

// starts: does Start tell this link?
func starts(t *testing.T, station, watch int, safe []int, want api.Link) {
	t.Helper()
	if got, e := bus.Start(station, watch, safe); e != api.OK || !alike(got, want) {
		t.Errorf("Start(%d, %d, %v): %v, %v, not %v", station, watch, safe, got, e, want)
	}
}

// unstarted: does Start tell nothing but this error?
func unstarted(t *testing.T, station, watch int, safe []int, want api.Errno) {
	t.Helper()
	if got, e := bus.Start(station, watch, safe); e != want || !alike(got, api.Link{}) {
		t.Errorf("Start(%d, %d, %v): %v, %v, not %v", station, watch, safe, got, e, want)
	}
}

// takes: does the link become this one by a frame?
func takes(t *testing.T, l api.Link, b []byte, want api.Link) {
	t.Helper()
	if got, e := bus.Take(twin(l), b); e != api.OK || !alike(got, want) {
		t.Errorf("Take(%v, % x): %v, %v, not %v", l, b, got, e, want)
	}
}

// untaken: does Take tell this error, and the link as it was?
func untaken(t *testing.T, l api.Link, b []byte, want api.Errno) {
	t.Helper()
	if got, e := bus.Take(twin(l), b); e != want || !alike(got, l) {
		t.Errorf("Take(%v, % x): %v, %v, not %v and the same link", l, b, got, e, want)
	}
}

// ticks: does the link become this one by a tick?
func ticks(t *testing.T, l, want api.Link) {
	t.Helper()
	if got, e := bus.Tick(twin(l)); e != api.OK || !alike(got, want) {
		t.Errorf("Tick(%v): %v, %v, not %v", l, got, e, want)
	}
}

// isNone: do Take and Tick tell ErrState, and the zero link?
func isNone(t *testing.T, l api.Link) {
	t.Helper()
	if got, e := bus.Tick(l); e != api.ErrState || !alike(got, api.Link{}) {
		t.Errorf("Tick(%v): %v, %v, not ErrState", l, got, e)
	}
	for _, b := range [][]byte{nil, {1, 2, 3}, made(l.Station, l.Seq+1, l.Safe[:min(len(l.Safe), api.MaxWords)]...), made(l.Station, l.Seq, 1), made(250, 0), turned(made(1, 2), 0)} {
		if got, e := bus.Take(l, b); e != api.ErrState || !alike(got, api.Link{}) {
			t.Errorf("Take(%v, % x): %v, %v, not ErrState", l, b, got, e)
		}
	}
}

// isOne: do Take and Tick take the link for one that could be?
func isOne(t *testing.T, l api.Link) {
	t.Helper()
	if got, e := bus.Tick(l); e != api.OK || got.Station != l.Station || got.Watch != l.Watch {
		t.Errorf("Tick(%v): %v, %v", l, got, e)
	}
	untaken(t, l, nil, api.ErrSize)
	takes(t, l, made(l.Station, l.Seq+1, l.Safe...), api.Link{Station: l.Station, Watch: l.Watch, Safe: l.Safe, Words: l.Safe, Seq: (l.Seq + 1) % 256, Fresh: true})
}
