package round

import (
	"math"
	"slices"
	"testing"

	"isobar/api"
)

// P17.2: volumes answer in any order. The last answer alone returns the commands of the next
// phase, for all volumes, in the order in which they were passed.
func TestAnswer(t *testing.T) {
	for _, passed := range orders() {
		for _, answering := range orders() {
			if !sameVolumes(passed, answering) {
				continue
			}
			r := &Round{}
			begin(t, r, 6, passed...)
			for _, kind := range phases {
				answerIn(t, r, kind, passed, answering)
			}
			want(t, r, 0)
			wantDone(t, r, 6, true)
		}
	}
}

// sameVolumes reports whether two lists have the same volumes.
func sameVolumes(a, b []int) bool {
	return slices.Equal(slices.Sorted(slices.Values(a)), slices.Sorted(slices.Values(b)))
}

// answerIn lets the volumes of round 6 answer a phase in an order of their own.
func answerIn(t *testing.T, r *Round, kind int, passed, answering []int) {
	t.Helper()
	lacks := passed
	for i, v := range answering {
		want(t, r, 6, lacks...)
		got, err := r.Answer(Command{kind, v, 6})
		if err != nil {
			t.Fatalf("Answer of %d to %d: %v", v, kind, err)
		}
		lacks = slices.DeleteFunc(slices.Clone(lacks), func(x int) bool { return x == v })
		last := i == len(answering)-1
		if last && kind != Thaw && !slices.Equal(got, of(kind+1, 6, passed...)) {
			t.Fatalf("the last answer of %v to %d returns %v for %v", answering, kind, got, passed)
		}
		if (!last || kind == Thaw) && len(got) != 0 {
			t.Fatalf("the answer of %d to %d returns %v", v, kind, got)
		}
	}
}

// P17.2: all numbers that a round may have.
func TestAnswerNumbers(t *testing.T) {
	for _, number := range append([]int{1, 2, 300}, high...) {
		r := finished(t, number, 1, 3, 0, 2)
		want(t, r, 0)
	}
}

// P17.2: Answer with no round in progress: ahead of any, and behind one.
func TestAnswerNone(t *testing.T) {
	failing := &Round{}
	noBegin(t, failing, api.ErrArg, 3)
	for _, r := range []*Round{{}, finished(t, 3, 0, 2), failing} {
		for _, number := range slices.Concat(low, []int{1, 2, 3, 4}, high) {
			for _, kind := range []int{0, Freeze, Mark, Thaw, 4, -1} {
				for _, volume := range []int{0, 1, 2, 3, -1, 4} {
					noAnswer(t, r, api.ErrStale, Command{kind, volume, number})
				}
			}
		}
	}
}

// P17.2: Answer for another round than the one in progress, in each phase; for earlier ones
// too, which were in progress once.
func TestAnswerNumber(t *testing.T) {
	for _, phase := range phases {
		r := finished(t, 2, 0, 1)
		begin(t, r, 7, 0, 1)
		for kind := Freeze; kind < phase; kind++ {
			answerAll(t, r, kind)
		}
		for _, number := range slices.Concat(low, []int{1, 2, 3, 6, 8, 7 + 1<<32, 7 - 1<<32}, high) {
			for _, kind := range []int{Freeze, Mark, Thaw} {
				for _, volume := range []int{0, 1, 2, -1, 4} {
					noAnswer(t, r, api.ErrStale, Command{kind, volume, number})
				}
			}
		}
		want(t, r, 7, 0, 1)
		answer(t, r, phase, 7, 1)
		want(t, r, 7, 0)
	}
}

// P17.2: kinds that aren't the phase: those of earlier and of later ones, and numbers that
// are no kinds.
func TestAnswerKind(t *testing.T) {
	kinds := []int{Freeze, Mark, Thaw, 0, 4, 5, -1, -2, -3, 1 + 1<<32, 2 + 1<<32, 3 + 1<<32, math.MaxInt, math.MinInt}
	for _, phase := range phases {
		for _, kind := range kinds {
			if kind == phase {
				continue
			}
			r := begun(t, phase, 7, 2, 0)
			for _, volume := range []int{2, 0, 2, 1, -1, 4} {
				noAnswer(t, r, api.ErrStale, Command{kind, volume, 7})
			}
			answer(t, r, phase, 7, 0)
			noAnswer(t, r, api.ErrStale, Command{kind, 2, 7})
			want(t, r, 7, 2)
		}
	}
}

// P17.2: volumes that aren't those of the round: others, and numbers that aren't volumes.
func TestAnswerGone(t *testing.T) {
	for _, l := range orders() {
		for _, phase := range phases {
			r := begun(t, phase, 7, l...)
			for _, volume := range slices.Concat([]int{0, 1, 2, 3}, noVolumes) {
				if !slices.Contains(l, volume) {
					noAnswer(t, r, api.ErrGone, Command{phase, volume, 7})
				}
			}
			want(t, r, 7, l...)
			for kind := phase; kind <= Thaw; kind++ {
				answerAll(t, r, kind)
			}
		}
	}
	// The volumes of an earlier round don't count.
	r := finished(t, 1, 0, 1)
	begin(t, r, 2, 2, 1)
	noAnswer(t, r, api.ErrGone, Command{Freeze, 0, 2})
	want(t, r, 2, 2, 1)
}

// P17.2: ErrStale is returned ahead of ErrGone, and of no volume.
func TestAnswerOrder(t *testing.T) {
	r := begun(t, Mark, 7, 2, 0)
	for _, volume := range append([]int{1, 3}, noVolumes...) {
		noAnswer(t, r, api.ErrStale, Command{Freeze, volume, 7})
		noAnswer(t, r, api.ErrStale, Command{Thaw, volume, 7})
		noAnswer(t, r, api.ErrStale, Command{Mark, volume, 8})
		noAnswer(t, r, api.ErrStale, Command{Freeze, volume, 6})
		noAnswer(t, r, api.ErrStale, Command{0, volume, 0})
		noAnswer(t, r, api.ErrGone, Command{Mark, volume, 7})
	}
	answerAll(t, r, Mark)
	answerAll(t, r, Thaw)
	noAnswer(t, r, api.ErrStale, Command{Thaw, 1, 7})
}

// P17.2: the same answer again is none of another volume, and one more behind the phase is
// for a phase that is over.
func TestAnswerTwice(t *testing.T) {
	r := &Round{}
	begin(t, r, 7, 2, 0)
	for _, kind := range phases {
		for range 3 {
			answer(t, r, kind, 7, 0)
			want(t, r, 7, 2)
		}
		if got, err := r.Answer(Command{kind, 2, 7}); err != nil || (len(got) != 0) != (kind != Thaw) {
			t.Fatalf("the last answer to %d returns %v, %v", kind, got, err)
		}
		noAnswer(t, r, api.ErrStale, Command{kind, 2, 7})
		noAnswer(t, r, api.ErrStale, Command{kind, 0, 7})
	}
	wantDone(t, r, 7, true)
}

// P17.2: an answer ends a phase only if all have answered in this one: answers to an earlier
// phase don't count.
func TestAnswerAnew(t *testing.T) {
	r := begun(t, Freeze, 7, 0, 1, 2)
	answer(t, r, Freeze, 7, 2, 1)
	ticks(t, r, api.RoundTicks-1)
	lastTick(t, r, 0, 1, 2)
	answer(t, r, Thaw, 7, 0)
	want(t, r, 7, 1, 2)
	noAnswer(t, r, api.ErrStale, Command{Freeze, 0, 7})
	noAnswer(t, r, api.ErrStale, Command{Mark, 1, 7})
	answer(t, r, Thaw, 7, 1)
	answerAll(t, r, Thaw)
	wantDone(t, r, 7, false)
	begin(t, r, 8, 1, 0)
	answer(t, r, Freeze, 8, 1)
	want(t, r, 8, 0)
}

// P17.2, R2: an answer that fails changes nothing: neither who answered, nor the ticks.
func TestAnswerFails(t *testing.T) {
	for _, phase := range phases {
		for gone := range api.RoundTicks {
			r := begun(t, phase, 3, 2, 0, 1)
			answer(t, r, phase, 3, 0)
			ticks(t, r, gone)
			noAnswer(t, r, api.ErrGone, Command{phase, 3, 3})
			noAnswer(t, r, api.ErrGone, Command{phase, -1, 3})
			noAnswer(t, r, api.ErrStale, Command{phase, 2, 4})
			noAnswer(t, r, api.ErrStale, Command{phase%3 + 1, 2, 3})
			want(t, r, 3, 2, 1)
			ticks(t, r, api.RoundTicks-1-gone)
			if phase == Thaw {
				lastTick(t, r, 2, 1)
			} else {
				lastTick(t, r, 2, 0, 1)
			}
			answerAll(t, r, Thaw)
			wantDone(t, r, 3, phase == Thaw)
		}
	}
}
