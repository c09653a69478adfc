package round

import (
	"testing"

	"isobar/api"
)

// P17.3: with no round in progress, ticks do nothing, and aren't taken from those of the next
// round.
func TestTickNone(t *testing.T) {
	for _, r := range []*Round{{}, finished(t, 3, 0, 2)} {
		done, complete := r.Done()
		ticks(t, r, 100)
		want(t, r, 0)
		wantDone(t, r, done, complete)
		begin(t, r, 4, 1, 0)
		ticks(t, r, api.RoundTicks-1)
		want(t, r, 4, 1, 0)
		lastTick(t, r, 1, 0)
	}
}

// P17.3: in Freeze and in Mark, the last of the ticks enters Thaw: not an earlier one, and no
// matter who answered. Behind it, answers to the phase come too late.
func TestTickOut(t *testing.T) {
	for _, l := range orders() {
		for _, phase := range []int{Freeze, Mark} {
			for n := range l {
				r := begun(t, phase, 7, l...)
				answer(t, r, phase, 7, l[:n]...)
				for range api.RoundTicks - 1 {
					ticks(t, r, 1)
					want(t, r, 7, l[n:]...)
				}
				wantDone(t, r, 0, false)
				lastTick(t, r, l...)
				wantDone(t, r, 0, false)
				noAnswer(t, r, api.ErrStale, Command{phase, l[n], 7})
				noAnswer(t, r, api.ErrStale, Command{Mark, l[0], 7})
				answerAll(t, r, Thaw)
				wantDone(t, r, 7, false)
			}
		}
	}
}

// P17.3: an answer ahead of the last tick is in time.
func TestTickInTime(t *testing.T) {
	for _, phase := range phases {
		r := begun(t, phase, 7, 1, 0)
		ticks(t, r, api.RoundTicks-1)
		for kind := phase; kind <= Thaw; kind++ {
			answerAll(t, r, kind)
		}
		wantDone(t, r, 7, true)
	}
}

// P17.3: in Thaw, the volumes that have not answered are told again, and they alone, in
// order, as often as it takes.
func TestTickThaw(t *testing.T) {
	for _, l := range orders() {
		r := begun(t, Thaw, 7, l...)
		for n, v := range l {
			for range 3 {
				ticks(t, r, api.RoundTicks-1)
				lastTick(t, r, l[n:]...)
			}
			if _, err := r.Answer(Command{Thaw, v, 7}); err != nil {
				t.Fatalf("Answer of %d to Thaw: %v", v, err)
			}
		}
		ticks(t, r, 20)
		want(t, r, 0)
		wantDone(t, r, 7, true)
	}
	// Those that are told again are neither the first nor the last ones.
	r := begun(t, Thaw, 7, 3, 1, 0, 2)
	answer(t, r, Thaw, 7, 2, 3)
	ticks(t, r, api.RoundTicks-1)
	lastTick(t, r, 1, 0)
	answer(t, r, Thaw, 7, 1)
	ticks(t, r, api.RoundTicks-1)
	lastTick(t, r, 0)
}

// P17.3: a phase that is entered by an answer has all ticks again, however many were left of
// the one before. The volumes that answer don't give it more.
func TestTicksAnew(t *testing.T) {
	for _, phase := range phases {
		for gone := range api.RoundTicks {
			r := &Round{}
			begin(t, r, 7, 1, 0, 2)
			for kind := Freeze; kind < phase; kind++ {
				ticks(t, r, gone)
				answerAll(t, r, kind)
			}
			ticks(t, r, 2)
			answer(t, r, phase, 7, 0)
			ticks(t, r, api.RoundTicks-3)
			want(t, r, 7, 1, 2)
			if phase == Thaw {
				lastTick(t, r, 1, 2)
			} else {
				lastTick(t, r, 1, 0, 2)
			}
		}
	}
}

// P17.3: Thaw has all ticks again when the time of the phase before has run out, and so has
// the round that is begun next.
func TestTicksBehindTime(t *testing.T) {
	for _, phase := range phases {
		r := begun(t, phase, 7, 1, 0)
		ticks(t, r, api.RoundTicks-1)
		lastTick(t, r, 1, 0)
		ticks(t, r, api.RoundTicks-1)
		lastTick(t, r, 1, 0)
		ticks(t, r, 3)
		answerAll(t, r, Thaw)
		begin(t, r, 8, 0)
		ticks(t, r, api.RoundTicks-1)
		lastTick(t, r, 0)
	}
}

// P17.3: what Number, Done and Lacks return ahead of a round, in each phase, and behind it.
func TestAsk(t *testing.T) {
	r := &Round{}
	want(t, r, 0)
	wantDone(t, r, 0, false)
	begin(t, r, 7, 3, 1)
	for _, kind := range phases {
		want(t, r, 7, 3, 1)
		wantDone(t, r, 0, false)
		answer(t, r, kind, 7, 3)
		want(t, r, 7, 1)
		wantDone(t, r, 0, false)
		if _, err := r.Answer(Command{kind, 1, 7}); err != nil {
			t.Fatalf("the last answer to %d: %v", kind, err)
		}
	}
	want(t, r, 0)
	wantDone(t, r, 7, true)
}

// P17.3: whether all marked a round: not one whose time ran out in Freeze or in Mark, but one
// whose volumes had to be told again to thaw.
func TestDone(t *testing.T) {
	for _, phase := range phases {
		for _, l := range orders() {
			r := begun(t, phase, 7, l...)
			ticks(t, r, api.RoundTicks-1)
			lastTick(t, r, l...)
			wantDone(t, r, 0, false)
			answerAll(t, r, Thaw)
			wantDone(t, r, 7, phase == Thaw)
		}
	}
}

// P17.3: Done keeps the last finished round until the next one is finished as well. Whether
// one was marked says nothing about the next one.
func TestDoneKeeps(t *testing.T) {
	r := &Round{}
	number, before := 0, false
	for _, complete := range []bool{true, true, false, true, false, false, true} {
		begin(t, r, number+2, 1, 0)
		wantDone(t, r, number, before)
		answerAll(t, r, Freeze)
		wantDone(t, r, number, before)
		if complete {
			answerAll(t, r, Mark)
		} else {
			answer(t, r, Mark, number+2, 0)
			ticks(t, r, api.RoundTicks-1)
			lastTick(t, r, 1, 0)
		}
		noBegin(t, r, api.ErrState, number+3, 1)
		wantDone(t, r, number, before)
		answer(t, r, Thaw, number+2, 0)
		wantDone(t, r, number, before)
		answerRest(t, r, Thaw)
		number, before = number+2, complete
		wantDone(t, r, number, complete)
		noBegin(t, r, api.ErrArg, number+1)
		noBegin(t, r, api.ErrStale, number, 1)
		ticks(t, r, 10)
		wantDone(t, r, number, complete)
	}
}

// P17.3: asking changes nothing, however often.
func TestAskOften(t *testing.T) {
	for _, phase := range phases {
		r := begun(t, phase, 7, 1, 0, 2)
		answer(t, r, phase, 7, 0)
		for range api.RoundTicks - 1 {
			for range 5 {
				want(t, r, 7, 1, 2)
				wantDone(t, r, 0, false)
			}
			ticks(t, r, 1)
		}
		if got := r.Tick(); len(got) == 0 {
			t.Fatal("the last Tick returns no commands")
		}
	}
}
