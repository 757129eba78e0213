package cell_test

import (
	"math"
	"math/big"
	"strconv"
	"testing"

	"plantwright/api"
	"plantwright/cell"
)

// row is one of the table of operations; second and result 0: as the kind.
type row struct {
	kinds          []api.Kind
	unary          bool
	second, result api.Kind
}

func table() map[api.Op]row {
	sums := row{kinds: []api.Kind{api.Int, api.Dint, api.Time}}
	products := row{kinds: []api.Kind{api.Int, api.Dint}}
	bits := row{kinds: []api.Kind{api.Bool, api.Word}}
	same := row{kinds: []api.Kind{api.Bool, api.Int, api.Dint, api.Word, api.Time}, result: api.Bool}
	order := row{kinds: []api.Kind{api.Int, api.Dint, api.Word, api.Time}, result: api.Bool}
	shifts := row{kinds: []api.Kind{api.Word}, second: api.Int}
	least := row{kinds: []api.Kind{api.Int, api.Dint, api.Word, api.Time}}
	not := row{kinds: []api.Kind{api.Bool, api.Word}, unary: true}
	signs := row{kinds: []api.Kind{api.Int, api.Dint}, unary: true}
	return map[api.Op]row{
		api.Add: sums, api.Sub: sums,
		api.Mul: products, api.Div: products, api.Mod: products,
		api.And: bits, api.Or: bits, api.Xor: bits,
		api.Eq: same, api.Ne: same,
		api.Lt: order, api.Le: order, api.Gt: order, api.Ge: order,
		api.Shl: shifts, api.Shr: shifts, api.Rol: shifts, api.Ror: shifts,
		api.Min: least, api.Max: least,
		api.Not: not,
		api.Neg: signs, api.Abs: signs,
	}
}

// asked says by the table what an operation of a kind has to have; false: the kind has it not.
func asked(op api.Op, k api.Kind) (second, result api.Kind, has bool) {
	r := table()[op]
	for _, x := range r.kinds {
		if x != k {
			continue
		}
		second, result = k, k
		if r.unary {
			second = api.None
		} else if r.second != api.None {
			second = r.second
		}
		if r.result != api.None {
			result = r.result
		}
		return second, result, true
	}
	return api.None, api.None, false
}

func allOps() []api.Op {
	l := []api.Op{math.MinInt, -1, 0, 24, 25, 1000, math.MaxInt}
	for op := api.Add; op <= api.Abs; op++ {
		l = append(l, op)
	}
	return l
}

func allKinds() []api.Kind {
	l := append([]api.Kind{}, noKinds...)
	for _, x := range kinds {
		l = append(l, x.kind)
	}
	return l
}

func TestResultAndSecond(t *testing.T) {
	for _, op := range allOps() {
		for _, k := range allKinds() {
			second, result, _ := asked(op, k)
			if got := cell.Result(op, k); got != result {
				t.Errorf("Result(%d, %d) is %d, not %d", op, k, got, result)
			}
			if got := cell.Second(op, k); got != second {
				t.Errorf("Second(%d, %d) is %d, not %d", op, k, got, second)
			}
		}
	}
}

func TestDoWhatTheKindHasNot(t *testing.T) {
	for _, op := range allOps() {
		for _, k := range allKinds() {
			if _, _, has := asked(op, k); has {
				continue
			}
			for _, b := range []int{0, 1, 5, -1} {
				if n, z := cell.Do(op, k, 7, b); n != 0 || z {
					t.Errorf("Do(%d, %d, 7, %d) is %d, %v", op, k, b, n, z)
				}
			}
		}
	}
}

// yes is a truth as a number.
func yes(b bool) *big.Int {
	if b {
		return big.NewInt(1)
	}
	return big.NewInt(0)
}

// turned moves a text of noughts and ones; round: what falls out comes in again.
func turned(word, count int, left, round bool) *big.Int {
	s := strconv.FormatInt(int64(65536+word), 2)[1:]
	for range max(count, 0) {
		in := "0"
		if left {
			if round {
				in = s[:1]
			}
			s = s[1:] + in
		} else {
			if round {
				in = s[15:]
			}
			s = in + s[:15]
		}
	}
	n, _ := strconv.ParseInt(s, 2, 64)
	return big.NewInt(n)
}

// reckoned is what an operation answers ahead of being wrapped, by numbers that have no width; a and b are wrapped.
func reckoned(op api.Op, a, b int) *big.Int {
	x, y, out := big.NewInt(int64(a)), big.NewInt(int64(b)), new(big.Int)
	order := x.Cmp(y)
	switch op {
	case api.Add:
		return out.Add(x, y)
	case api.Sub:
		return out.Sub(x, y)
	case api.Mul:
		return out.Mul(x, y)
	case api.Div:
		return out.Quo(x, y)
	case api.Mod:
		return out.Rem(x, y)
	case api.And:
		return out.And(x, y)
	case api.Or:
		return out.Or(x, y)
	case api.Xor:
		return out.Xor(x, y)
	case api.Eq:
		return yes(order == 0)
	case api.Ne:
		return yes(order != 0)
	case api.Lt:
		return yes(order < 0)
	case api.Le:
		return yes(order <= 0)
	case api.Gt:
		return yes(order > 0)
	case api.Ge:
		return yes(order >= 0)
	case api.Shl, api.Rol:
		return turned(a, b, true, op == api.Rol)
	case api.Shr, api.Ror:
		return turned(a, b, false, op == api.Ror)
	case api.Min, api.Max:
		if (order < 0) == (op == api.Min) {
			return x
		}
		return y
	case api.Not:
		return out.Not(x)
	case api.Neg:
		return out.Neg(x)
	}
	return out.Abs(x)
}

func TestDoAtEdges(t *testing.T) {
	for op := api.Add; op <= api.Abs; op++ {
		for _, k := range allKinds() {
			second, result, has := asked(op, k)
			if !has {
				continue
			}
			for _, a := range numbers() {
				for _, b := range numbers() {
					x, y := wrapped(k, big.NewInt(int64(a))), wrapped(second, big.NewInt(int64(b)))
					nought := y == 0 && (op == api.Div || op == api.Mod)
					want := 0
					if !nought {
						want = wrapped(result, reckoned(op, x, y))
					}
					if n, z := cell.Do(op, k, a, b); n != want || z != nought {
						t.Fatalf("Do(%d, %d, %d, %d) is %d, %v, not %d, %v", op, k, a, b, n, z, want, nought)
					}
				}
			}
		}
	}
}

func TestDoByHand(t *testing.T) {
	for _, x := range []struct {
		op   api.Op
		kind api.Kind
		a, b int
		want int
		zero bool
	}{
		{api.Add, api.Int, 32767, 1, -32768, false},
		{api.Div, api.Dint, -2147483648, -1, -2147483648, false},
		{api.Mod, api.Dint, -2147483648, -1, 0, false},
		{api.Mod, api.Int, -7, 3, -1, false},
		{api.Mod, api.Int, 7, -3, 1, false},
		{api.Div, api.Int, -7, 2, -3, false},
		{api.Div, api.Int, 7, -2, -3, false},
		{api.Div, api.Int, 5, 0, 0, true},
		{api.Mod, api.Dint, 5, 0, 0, true},
		{api.Div, api.Int, 0, 0, 0, true},
		{api.Div, api.Int, 5, 65536, 0, true}, // nought, once it is wrapped
		{api.Sub, api.Time, 5, 10, 4294967291, false},
		{api.Add, api.Time, 4294967295, 1, 0, false},
		{api.Mul, api.Dint, -2147483648, -2147483648, 0, false},
		{api.Mul, api.Dint, 2147483647, 2147483647, 1, false},
		{api.Rol, api.Word, 0x8001, 17, 3, false},
		{api.Rol, api.Word, 0x8001, -1, 0x8001, false},
		{api.Ror, api.Word, 0x8001, 1, 0xC000, false},
		{api.Ror, api.Word, 0x8001, -1, 0x8001, false},
		{api.Ror, api.Word, 0x8001, 16, 0x8001, false},
		{api.Shl, api.Word, 0xFFFF, 15, 0x8000, false},
		{api.Shl, api.Word, 0xFFFF, 16, 0, false},
		{api.Shl, api.Word, 0xFFFF, 32767, 0, false},
		{api.Shl, api.Word, 0x1234, -5, 0x1234, false},
		{api.Shl, api.Word, 0x1234, 40000, 0x1234, false}, // below 0, once it is an Int
		{api.Shr, api.Word, 0xFFFF, 15, 1, false},
		{api.Shr, api.Word, 0xFFFF, 16, 0, false},
		{api.Shr, api.Word, 0xFFFF, -1, 0xFFFF, false},
		{api.Not, api.Bool, 1, 9, 0, false},
		{api.Not, api.Bool, 0, 9, 1, false},
		{api.Not, api.Word, 0x00FF, 9, 0xFF00, false},
		{api.Neg, api.Int, -32768, 0, -32768, false},
		{api.Abs, api.Int, -32768, 0, -32768, false},
		{api.Abs, api.Dint, -5, 0, 5, false},
		{api.Lt, api.Word, -1, 1, 0, false}, // 65535 is not below 1
		{api.Lt, api.Int, -1, 1, 1, false},
		{api.Max, api.Time, -1, 1, 4294967295, false},
		{api.Min, api.Int, 32768, 5, -32768, false},
		{api.Eq, api.Bool, 3, 1, 1, false},
		{api.Ne, api.Dint, 1 << 32, 0, 0, false},
	} {
		if n, z := cell.Do(x.op, x.kind, x.a, x.b); n != x.want || z != x.zero {
			t.Errorf("Do(%d, %d, %d, %d) is %d, %v, not %d, %v", x.op, x.kind, x.a, x.b, n, z, x.want, x.zero)
		}
	}
}

func TestWhatComesOfDo(t *testing.T) {
	do := func(op api.Op, k api.Kind, a, b int) int {
		n, _ := cell.Do(op, k, a, b)
		return n
	}
	for _, a := range numbers() {
		for _, b := range numbers() {
			for _, k := range []api.Kind{api.Int, api.Dint} {
				back := do(api.Add, k, do(api.Mul, k, do(api.Div, k, a, b), b), do(api.Mod, k, a, b))
				if cell.Wrap(k, b) != 0 && back != cell.Wrap(k, a) {
					t.Errorf("kind %d: quotient and remainder of %d, %d make %d", k, a, b, back)
				}
			}
			if got := do(api.Ror, api.Word, do(api.Rol, api.Word, a, b), b); got != cell.Wrap(api.Word, a) {
				t.Errorf("%d turned left and back by %d is %d", a, b, got)
			}
		}
	}
}

func TestTurnedItself(t *testing.T) {
	if n := turned(0x8001, 1, true, true); n.Int64() != 3 {
		t.Error("the measure of these tests is wrong:", n)
	}
	if n := turned(0x8001, 1, false, false); n.Int64() != 0x4000 {
		t.Error("the measure of these tests is wrong:", n)
	}
}
