package cell_test

import (
	"bytes"
	"testing"

	"plantwright/api"
	"plantwright/cell"
)

func TestPut(t *testing.T) {
	for _, x := range []struct {
		kind api.Kind
		n    int
		want []byte
	}{
		{api.Bool, 0, []byte{0}}, {api.Bool, 1, []byte{1}}, {api.Bool, 2, nil}, {api.Bool, -1, nil},
		{api.Int, 0, []byte{0, 0}}, {api.Int, 0x1234, []byte{0x12, 0x34}}, {api.Int, -1, []byte{255, 255}}, {api.Int, -32768, []byte{128, 0}}, {api.Int, -2, []byte{255, 254}}, {api.Int, 32767, []byte{127, 255}}, {api.Int, 32768, nil}, {api.Int, -32769, nil},
		{api.Word, 0x1234, []byte{0x12, 0x34}}, {api.Word, 65535, []byte{255, 255}}, {api.Word, 65536, nil}, {api.Word, -1, nil},
		{api.Dint, 0x12345678, []byte{0x12, 0x34, 0x56, 0x78}}, {api.Dint, -1, []byte{255, 255, 255, 255}}, {api.Dint, -2147483648, []byte{128, 0, 0, 0}}, {api.Dint, 2147483648, nil}, {api.Dint, -2147483649, nil},
		{api.Time, 1, []byte{0, 0, 0, 1}}, {api.Time, 4294967295, []byte{255, 255, 255, 255}}, {api.Time, 4294967296, nil}, {api.Time, -1, nil},
		{api.None, 0, nil}, {6, 0, nil}, {-1, 1, nil},
	} {
		if got := cell.Put(x.kind, x.n); !bytes.Equal(got, x.want) {
			t.Errorf("Put(%d, %d) is % x, not % x", x.kind, x.n, got, x.want)
		}
	}
}

func TestGet(t *testing.T) {
	for _, x := range []struct {
		kind api.Kind
		b    []byte
		n    int
		e    api.Errno
	}{
		{api.Bool, []byte{0}, 0, 0}, {api.Bool, []byte{1}, 1, 0}, {api.Bool, []byte{2}, 0, api.ErrRange}, {api.Bool, []byte{255}, 0, api.ErrRange},
		{api.Int, []byte{0x12, 0x34}, 0x1234, 0}, {api.Int, []byte{255, 255}, -1, 0}, {api.Int, []byte{128, 0}, -32768, 0}, {api.Int, []byte{127, 255}, 32767, 0},
		{api.Word, []byte{0x12, 0x34}, 0x1234, 0}, {api.Word, []byte{255, 255}, 65535, 0}, {api.Word, []byte{128, 0}, 32768, 0},
		{api.Dint, []byte{0x12, 0x34, 0x56, 0x78}, 0x12345678, 0}, {api.Dint, []byte{255, 255, 255, 255}, -1, 0}, {api.Dint, []byte{128, 0, 0, 0}, -2147483648, 0},
		{api.Time, []byte{0, 0, 0, 1}, 1, 0}, {api.Time, []byte{255, 255, 255, 255}, 4294967295, 0},
	} {
		if n, e := cell.Get(x.kind, x.b); n != x.n || e != x.e {
			t.Errorf("Get(%d, % x) is %d, %d, not %d, %d", x.kind, x.b, n, e, x.n, x.e)
		}
	}
}

func TestGetWrongSizes(t *testing.T) {
	sizes := map[api.Kind]int{api.Bool: 1, api.Int: 2, api.Word: 2, api.Dint: 4, api.Time: 4}
	for many := range 12 {
		b := bytes.Repeat([]byte{255}, many)
		for k, size := range sizes {
			if n, e := cell.Get(k, b); many != size && (n != 0 || e != api.ErrSize) {
				t.Errorf("Get(%d) of %d bytes is %d, %d", k, many, n, e)
			}
		}
		for _, k := range noKinds {
			if n, e := cell.Get(k, b); n != 0 || e != api.ErrKind {
				t.Errorf("Get(%d) of %d bytes is %d, %d", k, many, n, e)
			}
		}
	}
	if n, e := cell.Get(api.Bool, nil); n != 0 || e != api.ErrSize {
		t.Error("Get of nil:", n, e)
	}
}

func TestWhatIsPutIsGot(t *testing.T) {
	for _, x := range kinds {
		for _, n := range append(numbers(), x.low, x.high) {
			if !cell.Fits(x.kind, n) {
				continue
			}
			if m, e := cell.Get(x.kind, cell.Put(x.kind, n)); m != n || e != api.OK {
				t.Errorf("%d of kind %d comes back as %d, %d", n, x.kind, m, e)
			}
		}
	}
}

func TestBytesAreNotShared(t *testing.T) {
	first := cell.Put(api.Dint, 7)
	first = first[:cap(first)]
	for i := range first {
		first[i] = 99
	}
	if got := cell.Put(api.Dint, 7); !bytes.Equal(got, []byte{0, 0, 0, 7}) {
		t.Errorf("an answer that was written to shows in the next one: % x", got)
	}
	room := []byte{1, 2, 3, 4}
	cell.Get(api.Word, room[:2])
	cell.Get(api.Time, room)
	if !bytes.Equal(room, []byte{1, 2, 3, 4}) {
		t.Errorf("Get changed what it was given: % x", room)
	}
}
