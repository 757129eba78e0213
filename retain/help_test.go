package retain_test

import (
	"bytes"
	"encoding/binary"
	"encoding/hex"
	"hash/crc32"
	"math"
	"slices"
	"strings"
	"testing"

	"plantwright/api"
	"plantwright/retain"
)

// die gives numbers that look drawn, the same each time.
type die uint64

func (d *die) n(most int) int {
	*d = *d*6364136223846793005 + 1442695040888963407
	return int(uint64(*d>>33) % uint64(most))
}

// unhex: bytes that are written as hexadecimal numbers, with blanks between them.
func unhex(s string) []byte {
	b, err := hex.DecodeString(strings.ReplaceAll(s, " ", ""))
	if err != nil {
		panic(err)
	}
	return b
}

// withSum: bytes with their CRC behind them, reckoned by the library.
func withSum(b []byte) []byte {
	return binary.LittleEndian.AppendUint32(slices.Clone(b), crc32.ChecksumIEEE(b))
}

// headOf: a head that is right, of any serial and number of words.
func headOf(serial, count int) []byte {
	b := binary.LittleEndian.AppendUint32([]byte("PWR1"), uint32(serial))
	return withSum(binary.LittleEndian.AppendUint32(b, uint32(count)))
}

// bodyOf: the words' bytes and their CRC.
func bodyOf(words ...int) []byte {
	var b []byte
	for _, w := range words {
		b = binary.LittleEndian.AppendUint32(b, uint32(w))
	}
	return withSum(b)
}

// made: a record that is right, made without the program.
func made(serial int, words ...int) []byte {
	return append(headOf(serial, len(words)), bodyOf(words...)...)
}

// many: so many words.
func many(n int) []int {
	l := make([]int, n)
	for i := range l {
		l[i] = i * 7919
	}
	return l
}

// turned: bytes of which one bit is turned.
func turned(b []byte, bit int) []byte {
	b = slices.Clone(b)
	b[bit/8] ^= 1 << (bit % 8)
	return b
}

// noNumbers are some of those that are none of a record.
var noNumbers = []int{-1, -2, -1 << 31, -1 << 32, 1 << 32, 1<<32 + 1, 1 << 40, math.MinInt, math.MinInt + 1, math.MaxInt, math.MaxInt - 1}

// records: does Record tell these bytes?
func records(t *testing.T, words []int, serial int, want []byte) {
	t.Helper()
	if got, e := retain.Record(words, serial); e != api.OK || !bytes.Equal(got, want) {
		t.Errorf("Record(%v, %d): % x, %v, not % x", words, serial, got, e, want)
	}
}

// unrecorded: does Record tell nothing but this error?
func unrecorded(t *testing.T, words []int, serial int, want api.Errno) {
	t.Helper()
	if got, e := retain.Record(words, serial); e != want || len(got) > 0 {
		t.Errorf("Record(%v, %d): % x, %v, not %v", words, serial, got, e, want)
	}
}

// reads: does Read tell these words and this serial?
func reads(t *testing.T, slot []byte, serial int, words ...int) {
	t.Helper()
	if got, n, e := retain.Read(slot); e != api.OK || n != serial || !slices.Equal(got, words) {
		t.Errorf("Read(% x): %v, %d, %v, not %v, %d", slot, got, n, e, words, serial)
	}
}

// unread: does Read tell nothing but this error?
func unread(t *testing.T, slot []byte, want api.Errno) {
	t.Helper()
	if got, n, e := retain.Read(slot); e != want || n != 0 || len(got) > 0 {
		t.Errorf("Read(% x): %v, %d, %v, not %v", slot, got, n, e, want)
	}
}

// isNewest: does Newest tell that slot and these words?
func isNewest(t *testing.T, a, b []byte, slot int, words ...int) {
	t.Helper()
	if got, n, e := retain.Newest(a, b); e != api.OK || n != slot || !slices.Equal(got, words) {
		t.Errorf("Newest(% x, % x): %v, %d, %v, not %v, %d", a, b, got, n, e, words, slot)
	}
}

// noNewest: does Newest tell nothing but ErrLost?
func noNewest(t *testing.T, a, b []byte) {
	t.Helper()
	if got, n, e := retain.Newest(a, b); e != api.ErrLost || n != 0 || len(got) > 0 {
		t.Errorf("Newest(% x, % x): %v, %d, %v, not ErrLost", a, b, got, n, e)
	}
}

// isStep: is a step as this one? A list without elements may be nil or not.
func isStep(got, want api.Write) bool {
	return got.Slot == want.Slot && got.Erase == want.Erase && got.At == want.At && bytes.Equal(got.Data, want.Data)
}

// saves: does Save tell the three steps that put these words into that slot, with that serial?
func saves(t *testing.T, a, b []byte, words []int, slot, serial int) {
	t.Helper()
	want := []api.Write{{Slot: slot, Erase: true}, {Slot: slot, At: 16, Data: bodyOf(words...)}, {Slot: slot, Data: headOf(serial, len(words))}}
	if got, e := retain.Save(a, b, words); e != api.OK || !slices.EqualFunc(got, want, isStep) {
		t.Errorf("Save(% x, % x, %v): %v, %v, not %v", a, b, words, got, e, want)
	}
}

// unsaved: does Save tell nothing but this error?
func unsaved(t *testing.T, a, b []byte, words []int, want api.Errno) {
	t.Helper()
	if got, e := retain.Save(a, b, words); e != want || len(got) > 0 {
		t.Errorf("Save(% x, % x, %v): %v, %v, not %v", a, b, words, got, e, want)
	}
}
