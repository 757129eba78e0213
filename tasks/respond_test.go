package tasks_test

import (
	"slices"
	"testing"

	"plantwright/api"
	"plantwright/tasks"
)

func TestRespond(t *testing.T) {
	responds(t, list("4 1 4, 6 2 6, 12 3 12"), 1, 3, 10) // the document's examples
	responds(t, list("12 3 12, 4 1 4"), 3, 4)
	late(t, list("12 3 12, 4 1 3"), 1)
	responds(t, list("7 3 3"), 3)
	responds(t, list("1 1 1"), 1)
	responds(t, list("1000000 1000000 1000000"), 1000000)
	responds(t, list("5 1 5, 5 1 5, 5 1 5, 5 1 5, 5 1 5"), 1, 2, 3, 4, 5)
	responds(t, list("100 20 100, 150 40 150, 350 100 350"), 20, 60, 240)
	responds(t, list("1000000 1 1, 1000000 999999 1000000"), 1, 1000000)
	responds(t, list("2 1 1, 1000000 499999 1000000"), 1, 999998)
	responds(t, list("2 1 1, 1000000 500000 1000000"), 1, 1000000)
	responds(t, list("3 1 3, 4 1 4, 6 1 6, 12 2 12"), 1, 2, 3, 11)
	responds(t, list("3 1 3, 4 1 4, 6 1 6, 12 3 12"), 1, 2, 3, 12)
}

// A period that goes into a reply just so often counts so often, and not once more.
func TestRoundedUp(t *testing.T) {
	responds(t, list("4 2 4, 20 2 20"), 2, 4)
	responds(t, list("4 2 4, 20 3 20"), 2, 7)
	responds(t, list("4 2 4, 20 4 20"), 2, 8)
	responds(t, list("4 2 4, 20 5 20"), 2, 11)
	responds(t, list("5 3 5, 10 2 5, 10 2 10"), 3, 5, 10)
}

// A reply may be the Deadline, and not one more.
func TestDeadline(t *testing.T) {
	responds(t, list("9 5 5"), 5)
	late(t, list("9 5 4"), 0)
	late(t, list("9 9 1"), 0)
	responds(t, list("4 1 1, 6 2 3, 12 3 10"), 1, 3, 10)
	late(t, list("4 1 1, 6 2 3, 12 3 9"), 2)
	late(t, list("4 1 1, 6 2 2, 12 3 10"), 1)
	late(t, list("1000000 1 1, 1000000 999999 999999"), 1)
	late(t, list("1000000 2 2, 1000000 999999 1000000"), 1)
}

// Where tasks take all the time there is, there is no number at all.
func TestNone(t *testing.T) {
	late(t, list("1 1 1, 1000000 1 1000000"), 1)
	late(t, list("2 1 2, 2 1 2, 1000000 1 1000000"), 2)
	late(t, list("1000000 1000000 1000000, 1000000 1 1000000"), 1)
	late(t, list("3 2 3, 3 2 3"), 1)
	late(t, slices.Repeat(list("1000000 1000000 1000000"), api.MaxTasks), 1)
	late(t, append(list("2 1 2, 4 1 4, 8 1 8, 16 1 16, 32 1 32, 64 1 64, 128 1 128, 256 1 256, 512 1 512, 1024 1 1024, 2048 1 2048, 4096 1 4096, 8192 1 8192, 16384 1 16384"), list("16384 1 16384, 1000000 1 1000000")...), 15)
}

// Of several tasks that are late the first one is told; those behind it do not count.
func TestFirstLate(t *testing.T) {
	late(t, list("9 5 4, 9 5 4"), 0)
	late(t, list("9 1 1, 9 5 4, 9 5 4"), 1)
	late(t, list("9 1 1, 9 5 6, 9 5 4, 9 9 9"), 2)
	late(t, list("100 1 100, 100 1 1, 100 1 100, 100 1 1"), 1)
	responds(t, list("9 9 9"), 9)
	late(t, list("9 9 9, 9 1 9"), 1)
	late(t, append(many(15), list("100 1 15")...), 15)
}

func TestOffsetsDoNotCount(t *testing.T) {
	responds(t, list("4 1 4 7, 6 2 6 1, 12 3 12 1000000"), 1, 3, 10)
	late(t, list("10 6 10, 10 6 10 5"), 1)
	lateOrder(t, list("10 6 10, 10 6 10 5"), 1)
}

// modelReply: the least number that the chapter asks for, looked for among all of them from 1 on; 0: there is none up to the Deadline.
func modelReply(l []api.Task, i int) int {
	for r := 1; r <= l[i].Deadline; r++ {
		sum := l[i].Cost
		for _, t := range l[:i] {
			times := r / t.Period
			if r%t.Period > 0 {
				times++
			}
			sum += t.Cost * times
		}
		if sum == r {
			return r
		}
	}
	return 0
}

func TestRespondModel(t *testing.T) {
	d := die(1)
	fine, slow := 0, map[int]int{}
	for range 20000 {
		l := drawn(&d, 6, []int{6, 30, 300}[d.n(3)])
		var want []int
		for i := range l {
			if r := modelReply(l, i); r > 0 {
				want = append(want, r)
				continue
			}
			late(t, l, i)
			slow[i]++
			break
		}
		if len(want) == len(l) {
			responds(t, l, want...)
			fine++
		}
	}
	if fine < 2000 || slow[0] < 100 || slow[1] < 100 || slow[5] < 10 {
		t.Error("too few of each kind: ", fine, slow)
	}
}

// What lies behind a task does not count for it.
func TestRespondOfBeginning(t *testing.T) {
	d := die(2)
	for range 2000 {
		l := drawn(&d, 6, 60)
		all, f := tasks.Respond(l)
		for n := 1; n <= len(l); n++ {
			if f.Code == api.ErrSlow && f.Unit < n {
				late(t, l[:n], f.Unit)
			} else if f.Code == api.OK {
				responds(t, l[:n], all[:n]...)
			}
		}
	}
}
