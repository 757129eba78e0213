package retain

import (
	"hash/crc32"
	"testing"
)

// What the chapter says of nine bytes, which no record has; and sums of lists of all small lengths.
func TestSum(t *testing.T) {
	if got := sum([]byte("123456789")); got != 0xCBF43926 {
		t.Errorf("%x", got)
	}
	if got := sum(nil); got != 0 {
		t.Errorf("of nothing: %x", got)
	}
	var b []byte
	for i := range 300 {
		if got, want := sum(b), int(crc32.ChecksumIEEE(b)); got != want {
			t.Errorf("of %d bytes: %x, not %x", len(b), got, want)
		}
		b = append(b, byte(i*i+i/7))
	}
}
