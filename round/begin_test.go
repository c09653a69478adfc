package round

import (
	"math"
	"slices"
	"testing"

	"isobar/api"
)

// P17.1: a round is begun with the volumes in any order, and each is told to freeze once, in
// that order. R4: no volumes are none, however they are passed.
func TestBeginVolumes(t *testing.T) {
	if n := len(orders()); n != 4+12+24+24 {
		t.Fatalf("there are %d orders", n)
	}
	for _, l := range orders() {
		for _, number := range append([]int{1, 2, 300}, high...) {
			r := &Round{}
			begin(t, r, number, l...)
			wantDone(t, r, 0, false)
		}
	}
	r := &Round{}
	begin(t, r, 1, slices.Grow([]int{2}, 9)...)
}

// wrong are volumes that no round can have.
func wrong() [][]int {
	out := [][]int{nil, {}, make([]int, 0, 9), {0, 1, 2, 3, 0}, {0, 1, 2, 3, 3}, {3, 3, 3, 3, 3}, make([]int, 5000)}
	for _, l := range orders() {
		for i := range l {
			out = append(out, append(slices.Clone(l), l[i]), append([]int{l[i]}, l...))
		}
	}
	for _, v := range noVolumes {
		for _, l := range orders() {
			for i := range l {
				one := slices.Clone(l)
				one[i] = v
				out = append(out, one)
			}
			out = append(out, append(slices.Clone(l), v), append([]int{v}, l...))
		}
		out = append(out, []int{v, v}, []int{0, 0, v}, []int{v, 0, 0})
	}
	return out
}

// P17.1: no volumes, one that occurs twice, and one that isn't there, for a zero Round and
// behind a round.
func TestBeginArg(t *testing.T) {
	for _, volumes := range wrong() {
		r := &Round{}
		for _, number := range append([]int{1, 2}, high...) {
			noBegin(t, r, api.ErrArg, number, volumes...)
		}
		begin(t, r, 1, 0)
	}
	for _, volumes := range wrong() {
		r := finished(t, 5, 2, 1)
		for _, number := range append([]int{6, 7}, high...) {
			noBegin(t, r, api.ErrArg, number, volumes...)
		}
		begin(t, r, 6, 3, 1)
	}
}

// P17.1: numbers below 1, ahead of any round and behind one.
func TestBeginLow(t *testing.T) {
	for _, r := range []*Round{{}, finished(t, 1, 0), finished(t, 5, 3, 0)} {
		for _, number := range low {
			noBegin(t, r, api.ErrStale, number, 0)
			noBegin(t, r, api.ErrStale, number, 3, 2, 1, 0)
		}
		begin(t, r, 6, 0)
	}
}

// P17.1: numbers equal to, below and above the greatest one begun so far, which no round has
// to be begun with in between.
func TestBeginStale(t *testing.T) {
	r := &Round{}
	begunSoFar := 0
	for _, number := range append([]int{1, 2, 3, 7, 100}, high...) {
		for _, stale := range []int{begunSoFar, begunSoFar - 1, begunSoFar / 2, 1} {
			if stale <= begunSoFar {
				noBegin(t, r, api.ErrStale, stale, 0, 1)
			}
		}
		begin(t, r, number, 1, 0)
		for kind := Freeze; kind <= Thaw; kind++ {
			answerAll(t, r, kind)
		}
		wantDone(t, r, number, true)
		begunSoFar = number
	}
	// No number is above the greatest one.
	for _, number := range slices.Concat(low, []int{1, 2, 100}, high) {
		noBegin(t, r, api.ErrStale, number, 0)
	}
}

// P17.1: a round counts as begun even if not all marked it.
func TestBeginStaleBehindTime(t *testing.T) {
	for _, phase := range phases {
		r := begun(t, phase, 8, 2, 0)
		ticks(t, r, api.RoundTicks-1)
		lastTick(t, r, 2, 0)
		answerAll(t, r, Thaw)
		for _, number := range []int{1, 7, 8} {
			noBegin(t, r, api.ErrStale, number, 2, 0)
		}
		begin(t, r, 9, 2, 0)
	}
}

// P17.1: Begin while a round is in progress, in each phase, with whatever number and volumes.
func TestBeginState(t *testing.T) {
	numbers := slices.Concat(low, []int{1, 2, 6, 7, 8, 9}, high)
	for _, phase := range phases {
		for _, number := range []int{1, 7, math.MaxInt} {
			r := begun(t, phase, number, 2, 0)
			for _, other := range numbers {
				for _, volumes := range [][]int{{2, 0}, {0}, {1, 3}, {3, 2, 1, 0}, nil, {}, {1, 1}, {-1}, {4}} {
					noBegin(t, r, api.ErrState, other, volumes...)
				}
			}
			for kind := phase; kind <= Thaw; kind++ {
				answerAll(t, r, kind)
			}
			wantDone(t, r, number, true)
		}
	}
}

// P17.1: ErrState is returned ahead of ErrStale, and that ahead of ErrArg.
func TestBeginOrder(t *testing.T) {
	r := begun(t, Thaw, 5, 0)
	noBegin(t, r, api.ErrState, 5)
	noBegin(t, r, api.ErrState, 0, 1, 1)
	noBegin(t, r, api.ErrState, 5, 0)
	noBegin(t, r, api.ErrState, 6)
	answerAll(t, r, Thaw)
	for _, number := range []int{5, 4, 1, 0, -1, math.MinInt} {
		for _, volumes := range wrong() {
			noBegin(t, r, api.ErrStale, number, volumes...)
		}
	}
	noBegin(t, r, api.ErrArg, 6)
	begin(t, r, 6, 0)
}

// P17.1, R2: a Begin that fails doesn't count as begun, whatever its number is.
func TestBeginFailsBefore(t *testing.T) {
	for _, volumes := range [][]int{nil, {0, 0}, {4}, {-1}} {
		r := &Round{}
		noBegin(t, r, api.ErrArg, math.MaxInt, volumes...)
		noBegin(t, r, api.ErrArg, 9, volumes...)
		ticks(t, r, 20)
		noAnswer(t, r, api.ErrStale, Command{Freeze, 0, 9})
		begin(t, r, 1, 1)
		noBegin(t, r, api.ErrState, math.MaxInt, 1)
		for kind := Freeze; kind <= Thaw; kind++ {
			answerAll(t, r, kind)
		}
		noBegin(t, r, api.ErrArg, math.MaxInt, volumes...)
		begin(t, r, 2, 0, 3)
	}
}

// P17.1, R2: a Begin that fails changes nothing of the round in progress: neither its phase,
// nor who answered, nor its ticks, nor whether all marked it.
func TestBeginFailsAmid(t *testing.T) {
	for _, phase := range phases {
		for gone := range api.RoundTicks {
			r := begun(t, phase, 3, 2, 0, 1)
			answer(t, r, phase, 3, 0)
			ticks(t, r, gone)
			noBegin(t, r, api.ErrState, 9, 3)
			noBegin(t, r, api.ErrState, 3, 2, 0, 1)
			noBegin(t, r, api.ErrState, 0)
			want(t, r, 3, 2, 1)
			ticks(t, r, api.RoundTicks-1-gone)
			if phase == Thaw {
				lastTick(t, r, 2, 1)
			} else {
				lastTick(t, r, 2, 0, 1)
			}
			answerAll(t, r, Thaw)
			wantDone(t, r, 3, phase == Thaw)
			begin(t, r, 4, 3)
		}
	}
}
