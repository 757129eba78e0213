package safety_test

import (
	"slices"
	"testing"

	"plantwright/api"
)

func TestCheck(t *testing.T) {
	isGood(t, example())
	isGood(t, api.Guard{Sensors: 1, Votes: []api.Vote{vote(1, 0)}})
	isGood(t, api.Guard{Sensors: 3, Votes: []api.Vote{vote(2, 2, 0, 1), vote(2, 2, 0, 1), vote(1, 0)}})
	for n := 1; n <= api.MaxSensors; n++ {
		isGood(t, api.Guard{Sensors: n, Votes: []api.Vote{vote(n, upTo(n)...), vote(1, n-1)}})
		for need := 1; need <= n; need++ {
			isGood(t, api.Guard{Sensors: api.MaxSensors, Votes: []api.Vote{vote(need, upTo(n)...)}})
		}
	}
	for n := 1; n <= api.MaxVotes; n++ {
		isGood(t, each(n, 5))
	}
	for delay := range api.MaxDelay + 1 {
		isGood(t, each(2, delay))
	}
}

func TestCheckSensors(t *testing.T) {
	for _, n := range farther(1, api.MaxSensors, 0, api.MaxSensors+1, 66, 127, 128, 255, 320) {
		isBad(t, with(example(), func(g *api.Guard) { g.Sensors = n }), api.ErrSize, 0)
	}
	isBad(t, api.Guard{}, api.ErrSize, 0)
}

func TestCheckVotes(t *testing.T) {
	isBad(t, api.Guard{Sensors: 4}, api.ErrSize, 0)
	isBad(t, api.Guard{Sensors: 4, Votes: []api.Vote{}}, api.ErrSize, 0)
	for _, n := range []int{api.MaxVotes + 1, 18, 32, 255, 256, 257, 65537, 1 << 20} {
		isBad(t, api.Guard{Sensors: 4, Votes: slices.Repeat([]api.Vote{vote(1, 0)}, n)}, api.ErrSize, 0)
	}
}

func TestCheckDelay(t *testing.T) {
	for _, n := range farther(0, api.MaxDelay, api.MaxDelay+1, 1024, 65535) {
		isBad(t, with(example(), func(g *api.Guard) { g.Delay = n }), api.ErrRange, 0)
	}
}

// How many there are ahead of the delay, this ahead of each vote.
func TestCheckFirstFault(t *testing.T) {
	bad := []api.Vote{vote(0), vote(1, 9)}
	for _, delay := range []int{0, -1, 1001} {
		isBad(t, api.Guard{Sensors: 0, Delay: delay, Votes: bad}, api.ErrSize, 0)
		isBad(t, api.Guard{Sensors: 65, Delay: delay, Votes: bad}, api.ErrSize, 0)
		isBad(t, api.Guard{Sensors: 4, Delay: delay}, api.ErrSize, 0)
		isBad(t, api.Guard{Sensors: 4, Delay: delay, Votes: slices.Repeat(bad, 9)}, api.ErrSize, 0)
	}
	for _, v := range []api.Vote{vote(1), vote(1, 4), vote(1, 0, 0), vote(2, 0)} {
		isBad(t, api.Guard{Sensors: 4, Delay: -1, Votes: []api.Vote{v}}, api.ErrRange, 0)
		isBad(t, api.Guard{Sensors: 4, Delay: 1001, Votes: []api.Vote{vote(1, 0), v}}, api.ErrRange, 0)
	}
}

// badly: is a vote refused, at each place of a guard, whatever is wrong with those behind it?
func badly(t *testing.T, sensors int, v api.Vote, want api.Errno) {
	t.Helper()
	isBad(t, api.Guard{Sensors: sensors, Votes: []api.Vote{v}}, want, 0)
	for place := range api.MaxVotes {
		g := api.Guard{Sensors: sensors, Votes: slices.Repeat([]api.Vote{vote(1, 0)}, api.MaxVotes)}
		g.Votes[place] = v
		isBad(t, g, want, place)
		for i := place + 1; i < api.MaxVotes; i++ {
			g.Votes[i] = []api.Vote{vote(1), vote(1, -1), vote(1, 0, 0), vote(2, 0)}[i%4]
		}
		isBad(t, g, want, place)
	}
}

func TestCheckVoteOfNone(t *testing.T) {
	for _, need := range append(far, 0, 1, 2) {
		badly(t, 4, api.Vote{Need: need}, api.ErrSize)
		badly(t, 4, api.Vote{Need: need, Of: []int{}}, api.ErrSize)
	}
}

func TestCheckVoteName(t *testing.T) {
	for _, sensors := range []int{1, 2, 4, 63, 64} {
		for _, n := range farther(0, sensors-1, sensors, sensors+1, 64, 65) {
			badly(t, sensors, vote(1, n), api.ErrName)
			for place := range sensors {
				of := upTo(sensors)
				of[place] = n
				isBad(t, api.Guard{Sensors: sensors, Votes: []api.Vote{vote(1, of...)}}, api.ErrName, 0)
			}
			isBad(t, api.Guard{Sensors: sensors, Votes: []api.Vote{vote(1, 0), vote(1, append(upTo(sensors), n)...)}}, api.ErrName, 1)
		}
	}
}

func TestCheckVoteTwice(t *testing.T) {
	for i := range api.MaxSensors {
		for j := range i {
			of := upTo(api.MaxSensors)
			of[i] = j
			isBad(t, api.Guard{Sensors: api.MaxSensors, Votes: []api.Vote{vote(1, of...)}}, api.ErrTwice, 0)
			of[i], of[j] = i, i
			isBad(t, api.Guard{Sensors: api.MaxSensors, Votes: []api.Vote{vote(1, of...)}}, api.ErrTwice, 0)
		}
		badly(t, api.MaxSensors, vote(1, i, i), api.ErrTwice)
	}
	badly(t, 1, vote(1, 0, 0), api.ErrTwice)
	badly(t, 4, vote(1, 0, 1, 2, 3, 0), api.ErrTwice)
	isBad(t, api.Guard{Sensors: 64, Votes: []api.Vote{vote(1, make([]int, 1<<20)...)}}, api.ErrTwice, 0)
}

func TestCheckNeed(t *testing.T) {
	for n := 1; n <= api.MaxSensors; n++ {
		for _, need := range farther(1, n, 0, n+1, 65) {
			isBad(t, api.Guard{Sensors: api.MaxSensors, Votes: []api.Vote{vote(need, upTo(n)...)}}, api.ErrRange, 0)
		}
	}
	badly(t, 4, vote(0, 1, 2), api.ErrRange)
	badly(t, 4, vote(3, 1, 2), api.ErrRange)
}

// A sensor that there is not ahead of one that is there twice, wherever they stand, this ahead of Need.
func TestCheckVoteFirstFault(t *testing.T) {
	for _, need := range append(far, 0, 1, 4) {
		badly(t, 4, vote(need, 0, 0, 4), api.ErrName)
		badly(t, 4, vote(need, 4, 0, 0), api.ErrName)
		badly(t, 4, vote(need, 4, 4), api.ErrName)
		badly(t, 4, vote(need, -1, -1, 0), api.ErrName)
		badly(t, 4, vote(need, 2, 1, 2), api.ErrTwice)
	}
	long := make([]int, 1<<20)
	long[len(long)-1] = 64
	isBad(t, api.Guard{Sensors: 64, Votes: []api.Vote{vote(0, long...)}}, api.ErrName, 0)
}
