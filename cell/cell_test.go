package cell_test

import (
	"math"
	"math/big"
	"testing"

	"plantwright/api"
	"plantwright/cell"
)

// kinds are all there are, with the range and the width that the chapter gives.
var kinds = []struct {
	kind      api.Kind
	low, high int
	width     int
}{
	{api.Bool, 0, 1, 2},
	{api.Int, -32768, 32767, 65536},
	{api.Dint, -2147483648, 2147483647, 4294967296},
	{api.Word, 0, 65535, 65536},
	{api.Time, 0, 4294967295, 4294967296},
}

// noKinds are some of those that are none.
var noKinds = []api.Kind{api.None, -1, 6, 7, 255, math.MaxInt, math.MinInt}

// numbers are the edges of all kinds with what lies beside them, and some others.
func numbers() []int {
	l := []int{math.MinInt, math.MinInt + 1, math.MaxInt - 1, math.MaxInt, 12345, -12345, 90061001, 0x8001, 1 << 40, -1 << 40, 1<<40 + 1}
	for _, edge := range []int{0, 2, 15, 16, 17, 32, 64, 32768, -32768, 65536, -65536, 1 << 31, -1 << 31, 1 << 32, -1 << 32} {
		l = append(l, edge-1, edge, edge+1)
	}
	return l
}

// wrapped is n modulo the width, within the range: reckoned by numbers that have no width of their own.
func wrapped(k api.Kind, n *big.Int) int {
	for _, x := range kinds {
		if x.kind == k {
			width := big.NewInt(int64(x.width))
			m := int(new(big.Int).Mod(n, width).Int64())
			if m > x.high {
				m -= x.width
			}
			return m
		}
	}
	return 0
}

func TestFits(t *testing.T) {
	for _, x := range kinds {
		for _, n := range append(numbers(), x.low-1, x.low, x.high, x.high+1) {
			if got, want := cell.Fits(x.kind, n), n >= x.low && n <= x.high; got != want {
				t.Errorf("Fits(%d, %d) is %v", x.kind, n, got)
			}
		}
	}
	for _, k := range noKinds {
		for _, n := range numbers() {
			if cell.Fits(k, n) {
				t.Errorf("Fits(%d, %d): that is no kind", k, n)
			}
		}
	}
}

func TestWrap(t *testing.T) {
	for _, x := range kinds {
		for _, n := range numbers() {
			if got, want := cell.Wrap(x.kind, n), wrapped(x.kind, big.NewInt(int64(n))); got != want {
				t.Errorf("Wrap(%d, %d) is %d, not %d", x.kind, n, got, want)
			}
		}
	}
	for _, k := range noKinds {
		for _, n := range numbers() {
			if got := cell.Wrap(k, n); got != 0 {
				t.Errorf("Wrap(%d, %d) is %d: that is no kind", k, n, got)
			}
		}
	}
}

func TestWrapByHand(t *testing.T) {
	for _, x := range []struct {
		kind    api.Kind
		n, want int
	}{
		{api.Bool, 2, 0}, {api.Bool, 3, 1}, {api.Bool, -1, 1},
		{api.Int, 32768, -32768}, {api.Int, -32769, 32767}, {api.Int, 65537, 1},
		{api.Dint, 2147483648, -2147483648}, {api.Dint, -2147483649, 2147483647},
		{api.Word, 65536, 0}, {api.Word, -1, 65535},
		{api.Time, 4294967296, 0}, {api.Time, -1, 4294967295},
	} {
		if got := cell.Wrap(x.kind, x.n); got != x.want {
			t.Errorf("Wrap(%d, %d) is %d, not %d", x.kind, x.n, got, x.want)
		}
	}
}

func TestConvert(t *testing.T) {
	for _, from := range kinds {
		for _, to := range kinds {
			for _, n := range numbers() {
				value := wrapped(from.kind, big.NewInt(int64(n)))
				want := wrapped(to.kind, big.NewInt(int64(value)))
				if to.kind == api.Bool && value != 0 {
					want = 1
				}
				if got := cell.Convert(from.kind, to.kind, n); got != want {
					t.Errorf("Convert(%d, %d, %d) is %d, not %d", from.kind, to.kind, n, got, want)
				}
			}
		}
	}
}

func TestConvertByHand(t *testing.T) {
	for _, x := range []struct {
		from, to api.Kind
		n, want  int
	}{
		{api.Int, api.Bool, 2, 1},      // not modulo 2
		{api.Int, api.Bool, 65536, 0},  // nought, once it is wrapped
		{api.Dint, api.Bool, 65536, 1}, // here it is not
		{api.Int, api.Dint, 32768, -32768},
		{api.Int, api.Word, -1, 65535},
		{api.Word, api.Int, 65535, -1},
		{api.Dint, api.Time, -1, 4294967295},
		{api.Time, api.Int, 98304, -32768},
		{api.Bool, api.Int, 3, 1},
		{api.Dint, api.Dint, 1 << 31, -1 << 31},
	} {
		if got := cell.Convert(x.from, x.to, x.n); got != x.want {
			t.Errorf("Convert(%d, %d, %d) is %d, not %d", x.from, x.to, x.n, got, x.want)
		}
	}
}

func TestConvertNoKind(t *testing.T) {
	for _, no := range noKinds {
		for _, x := range kinds {
			for _, n := range []int{0, 1, 5, -1, math.MaxInt} {
				if got := cell.Convert(no, x.kind, n); got != 0 {
					t.Errorf("Convert(%d, %d, %d) is %d", no, x.kind, n, got)
				}
				if got := cell.Convert(x.kind, no, n); got != 0 {
					t.Errorf("Convert(%d, %d, %d) is %d", x.kind, no, n, got)
				}
			}
		}
		if got := cell.Convert(no, no, 1); got != 0 {
			t.Errorf("Convert(%d, %d, 1) is %d", no, no, got)
		}
	}
}
