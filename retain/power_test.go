package retain_test

import (
	"bytes"
	"slices"
	"testing"

	"plantwright/api"
	"plantwright/retain"
)

// flash: two slots as they are in a memory.
type flash [2][]byte

func newFlash(size int) flash {
	return flash{bytes.Repeat([]byte{255}, size), bytes.Repeat([]byte{255}, size)}
}

func (f flash) copied() flash {
	return flash{slices.Clone(f[0]), slices.Clone(f[1])}
}

// strokes: of how many bytes a step takes hold.
func (f flash) strokes(w api.Write) int {
	if w.Erase {
		return len(f[w.Slot])
	}
	return len(w.Data)
}

// do: a step, till power is lost behind so many bytes; an erasure comes to them in an order of its own.
func (f flash) do(w api.Write, many int, turn func(int) int) {
	if !w.Erase {
		copy(f[w.Slot][w.At:], w.Data[:many])
		return
	}
	for i := range many {
		f[w.Slot][turn(i)] = 255
	}
}

// save: all steps.
func (f flash) save(t *testing.T, words []int) {
	t.Helper()
	for _, w := range f.steps(t, words) {
		f.do(w, f.strokes(w), func(i int) int { return i })
	}
}

func (f flash) steps(t *testing.T, words []int) []api.Write {
	t.Helper()
	steps, e := retain.Save(f[0], f[1], words)
	if e != api.OK {
		t.Fatal(words, e)
	}
	return steps
}

// has: does Newest tell these words (nil: that there are none)?
func (f flash) has(t *testing.T, words []int) {
	t.Helper()
	if words == nil {
		noNewest(t, f[0], f[1])
		return
	}
	if got, _, e := retain.Newest(f[0], f[1]); e != api.OK || !slices.Equal(got, words) {
		t.Errorf("% x, % x: %v, %v, not %v", f[0], f[1], got, e, words)
	}
}

// begun: flashes with what was kept last in them; serials go over MaxNumber in some.
func begun(t *testing.T) (flashes []flash, kept [][]int) {
	put := func(f flash, words []int) {
		flashes, kept = append(flashes, f), append(kept, words)
	}
	put(newFlash(60), nil)
	put(flash{make([]byte, 60), bytes.Repeat([]byte{0x50}, 60)}, nil)
	for _, serial := range []int{0, 1, 1<<31 - 1, api.MaxNumber - 1, api.MaxNumber} {
		f := newFlash(60)
		copy(f[0], made(serial, 7, 4294967295))
		put(f, []int{7, 4294967295})
		f = newFlash(60)
		copy(f[1], made(serial))
		put(f, []int{})
		for _, words := range [][]int{{1, 2, 3}, {4294967295, 4294967295}, {}, {5}} {
			f = f.copied()
			f.save(t, words)
			put(f, words)
		}
	}
	return flashes, kept
}

// Power is lost at any byte of any step: what was kept last is there, or what was being kept, if its head is there.
func TestPowerLost(t *testing.T) {
	flashes, kept := begun(t)
	cuts := 0
	for i, f := range flashes {
		f.has(t, kept[i])
		for _, words := range [][]int{{}, {9}, {4294967295}, {1, 2, 3, 4}, many(10)} {
			for _, backwards := range []bool{false, true} {
				cuts += lose(t, f, kept[i], words, backwards)
			}
		}
	}
	if cuts < 10000 {
		t.Error("too few: ", cuts)
	}
}

// lose: power, behind each byte of what is done to keep words.
func lose(t *testing.T, f flash, old, words []int, backwards bool) int {
	t.Helper()
	turn := func(i int) int {
		if backwards {
			return len(f[0]) - 1 - i
		}
		return i
	}
	steps := f.steps(t, words)
	cuts := 0
	done := f.copied()
	for _, w := range steps {
		for many := range done.strokes(w) + 1 {
			lost := done.copied()
			lost.do(w, many, turn)
			if w.Erase || w.At > 0 || !bytes.Equal(lost[w.Slot][:16], w.Data) {
				lost.has(t, old)
			} else {
				lost.has(t, words)
			}
			lost.save(t, []int{6, 6})
			lost.has(t, []int{6, 6})
			cuts++
		}
		done.do(w, done.strokes(w), turn)
	}
	done.has(t, words)
	if !bytes.Equal(done[1-steps[0].Slot], f[1-steps[0].Slot]) {
		t.Error("the other slot was changed")
	}
	return cuts
}

// Power that is lost again and again, in the midst of it, for a long while.
func TestPowerLostAgain(t *testing.T) {
	d := die(3)
	f := newFlash(100)
	var kept []int
	whole := 0
	for range 5000 {
		words := many(d.n(20))
		for i := range words {
			words[i] = []int{d.n(9), api.MaxNumber, d.n(1 << 31)}[d.n(3)]
		}
		places := make([]int, 100)
		for i := range places {
			j := d.n(i + 1)
			places[i], places[j] = places[j], i
		}
		turn := func(i int) int { return places[i] }
		steps := f.steps(t, words)
		last := d.n(4)
		for _, w := range steps[:last] {
			f.do(w, f.strokes(w), turn)
		}
		if last == 3 {
			kept = words
			whole++
		} else {
			w := steps[last]
			f.do(w, d.n(f.strokes(w)+1), turn)
			if !w.Erase && w.At == 0 && bytes.Equal(f[w.Slot][:16], w.Data) {
				kept = words
			}
		}
		f.has(t, kept)
	}
	if whole < 500 {
		t.Error("too few: ", whole)
	}
}

// What is kept again and again lies in one slot and then in the other one, with serials that go round.
func TestSerialsGoRound(t *testing.T) {
	f := newFlash(60)
	copy(f[1], made(api.MaxNumber-3, 0))
	serial, slot := api.MaxNumber-3, 1
	for i := range 10 {
		f.save(t, []int{i})
		serial, slot = (serial+1)%4294967296, 1-slot
		isNewest(t, f[0], f[1], slot, i)
		reads(t, f[slot], serial, i)
	}
	if serial != 6 {
		t.Error(serial)
	}
}

// burst: a record of which bits of a mask are turned, from a bit on, the lowest bit of a byte being its first.
func burst(b []byte, from int, mask uint32) []byte {
	b = slices.Clone(b)
	for i := range 32 {
		if mask>>i&1 == 1 {
			b[(from+i)/8] ^= 1 << ((from + i) % 8)
		}
	}
	return b
}

// Whatever bits are turned within 32 neighbouring ones, it is told.
func TestBursts(t *testing.T) {
	d := die(4)
	for _, words := range [][]int{nil, {0}, {1, 2, 4294967295}} {
		b := made(1<<24+5, words...)
		for from := range 8*len(b) - 31 {
			masks := []uint32{1<<32 - 1, 1<<31 + 1, 0xEDB88320, 0xDB710641, 0x04C11DB7, 0xFFFF0000}
			for i := range 32 {
				masks = append(masks, 1<<i, 1<<i|1, 1<<i-1|1<<31)
			}
			for range 100 {
				masks = append(masks, uint32(d.n(1<<31))<<1|1)
			}
			for _, mask := range masks {
				if got, n, e := retain.Read(burst(b, from, mask)); e == api.OK || n != 0 || len(got) > 0 {
					t.Fatalf("bits %x from %d on of % x: %v, %d, %v", mask, from, b, got, n, e)
				}
			}
		}
	}
	long := made(5, many(api.MaxKept)...)
	for range 300 {
		if _, _, e := retain.Read(burst(long, d.n(8*len(long)-31), uint32(d.n(1<<31))<<1|1)); e == api.OK {
			t.Fatal("a long one")
		}
	}
}
