package round

import (
	"errors"
	"math"
	"slices"
	"testing"

	"isobar/api"
	"isobar/fault"
)

// low are numbers below 1, which no round has.
var low = []int{0, -1, -2, -64, math.MinInt32, -1<<32 + 1, -1 << 60, math.MinInt + 1, math.MinInt}

// high are great numbers, ascending, which rounds may well have.
var high = []int{math.MaxInt32, 1 << 32, 1<<32 + 1, 1 << 60, math.MaxInt - 1, math.MaxInt}

// noVolumes are numbers that aren't volumes. Some of them would be if only their lowest bits
// counted.
var noVolumes = []int{-1, 4, -2, 5, 7, 8, 64, 255, 256, 257, -256, math.MaxInt32, 1 << 32, 1<<32 + 1, -1 << 32, math.MaxInt, math.MinInt}

// phases are the kinds, in the order in which a round enters them.
var phases = []int{Freeze, Mark, Thaw}

// of returns commands of a kind for these volumes.
func of(kind, number int, volumes ...int) []Command {
	var out []Command
	for _, v := range volumes {
		out = append(out, Command{Kind: kind, Volume: v, Number: number})
	}
	return out
}

// orders returns all orders of all volumes, of any three, any two and any one of them.
func orders() [][]int {
	var out [][]int
	var extend func(before []int)
	extend = func(before []int) {
		for v := range 4 {
			if slices.Contains(before, v) {
				continue
			}
			next := append(slices.Clone(before), v)
			out = append(out, next)
			extend(next)
		}
	}
	extend(nil)
	return out
}

// begin begins a round that can be begun.
func begin(t *testing.T, r *Round, number int, volumes ...int) {
	t.Helper()
	got, err := r.Begin(number, volumes...)
	if err != nil || !slices.Equal(got, of(Freeze, number, volumes...)) {
		t.Fatalf("Begin(%d, %v) = %v, %v", number, volumes, got, err)
	}
	want(t, r, number, volumes...)
}

// answer lets volumes answer a phase that others of them still have to answer.
func answer(t *testing.T, r *Round, kind, number int, volumes ...int) {
	t.Helper()
	for _, c := range of(kind, number, volumes...) {
		if got, err := r.Answer(c); err != nil || len(got) != 0 {
			t.Fatalf("Answer(%v) = %v, %v, want no commands", c, got, err)
		}
	}
}

// answerAll lets all volumes of r answer its phase, in the order in which they were passed.
func answerAll(t *testing.T, r *Round, kind int) {
	t.Helper()
	number, volumes := r.Number(), r.Lacks()
	last := len(volumes) - 1
	answer(t, r, kind, number, volumes[:last]...)
	got, err := r.Answer(Command{kind, volumes[last], number})
	if err != nil {
		t.Fatalf("the last answer to %d: %v", kind, err)
	}
	if kind == Thaw {
		if len(got) != 0 {
			t.Fatalf("behind Thaw, the commands are %v", got)
		}
		want(t, r, 0)
		return
	}
	if !slices.Equal(got, of(kind+1, number, volumes...)) {
		t.Fatalf("behind %d, the commands for %v are %v", kind, volumes, got)
	}
	want(t, r, number, volumes...)
}

// begun returns a Round that was begun with that number and these volumes, and is in a phase
// that was entered because all answered.
func begun(t *testing.T, phase, number int, volumes ...int) *Round {
	t.Helper()
	r := &Round{}
	begin(t, r, number, volumes...)
	for kind := Freeze; kind < phase; kind++ {
		answerAll(t, r, kind)
	}
	return r
}

// finished returns a Round whose only round was marked by all, and is finished.
func finished(t *testing.T, number int, volumes ...int) *Round {
	t.Helper()
	r := begun(t, Thaw, number, volumes...)
	answerAll(t, r, Thaw)
	wantDone(t, r, number, true)
	return r
}

// ticks lets n ticks go by, and checks that they return no commands.
func ticks(t *testing.T, r *Round, n int) {
	t.Helper()
	for i := range n {
		if got := r.Tick(); len(got) != 0 {
			t.Fatalf("Tick %d of %d = %v", i+1, n, got)
		}
	}
}

// lastTick lets the last tick of a phase go by, and checks which volumes are told to thaw.
func lastTick(t *testing.T, r *Round, volumes ...int) {
	t.Helper()
	number := r.Number()
	if got := r.Tick(); !slices.Equal(got, of(Thaw, number, volumes...)) {
		t.Fatalf("the last Tick of round %d = %v, want it for %v", number, got, volumes)
	}
	want(t, r, number, volumes...)
}

// want checks the number of the round in progress, and the volumes that it lacks.
func want(t *testing.T, r *Round, number int, lacks ...int) {
	t.Helper()
	if r.Number() != number || !slices.Equal(r.Lacks(), lacks) {
		t.Fatalf("Number %d, Lacks %v, want %d, %v", r.Number(), r.Lacks(), number, lacks)
	}
}

// wantDone checks the last finished round.
func wantDone(t *testing.T, r *Round, number int, complete bool) {
	t.Helper()
	if n, all := r.Done(); n != number || all != complete {
		t.Fatalf("Done = %d, %t, want %d, %t", n, all, number, complete)
	}
}

// wantFault checks that an error is the fault round, at, directly around e.
func wantFault(t *testing.T, err error, at int, e api.Errno) {
	t.Helper()
	f, ok := err.(*fault.Fault)
	if !ok || f == nil || f.Op != "round" || f.At != at || f.Err != error(e) {
		t.Fatalf("the error is %v, want the fault round, %d, around %v", err, at, e)
	}
	if fault.Code(err) != e || !errors.Is(err, e) {
		t.Fatalf("%v doesn't have the code %v", err, e)
	}
}

// noBegin and noAnswer check the error of a call, that no commands are returned beside it,
// and that the round stays as it is, as far as it can be asked.
func noBegin(t *testing.T, r *Round, e api.Errno, number int, volumes ...int) {
	t.Helper()
	defer stays(t, r)()
	got, err := r.Begin(number, volumes...)
	wantFault(t, err, number, e)
	if len(got) != 0 {
		t.Fatalf("Begin(%d, %v) returns %v beside %v", number, volumes, got, err)
	}
}

func noAnswer(t *testing.T, r *Round, e api.Errno, c Command) {
	t.Helper()
	defer stays(t, r)()
	got, err := r.Answer(c)
	wantFault(t, err, c.Number, e)
	if len(got) != 0 {
		t.Fatalf("Answer(%v) returns %v beside %v", c, got, err)
	}
}

// stays returns a function that checks that what r answers is what it answered before.
func stays(t *testing.T, r *Round) func() {
	t.Helper()
	number, lacks := r.Number(), r.Lacks()
	done, complete := r.Done()
	return func() {
		t.Helper()
		want(t, r, number, lacks...)
		wantDone(t, r, done, complete)
	}
}

// The chapter's example.
func TestExample(t *testing.T) {
	r := &Round{}
	begin(t, r, 1, 0, 2)
	answer(t, r, Freeze, 1, 0)
	marks, err := r.Answer(Command{Freeze, 2, 1})
	if err != nil || !slices.Equal(marks, []Command{{Mark, 0, 1}, {Mark, 2, 1}}) {
		t.Fatalf("behind Freeze: %v, %v", marks, err)
	}
	answer(t, r, Mark, 1, 2)
	thaws, err := r.Answer(Command{Mark, 0, 1})
	if err != nil || !slices.Equal(thaws, []Command{{Thaw, 0, 1}, {Thaw, 2, 1}}) {
		t.Fatalf("behind Mark: %v, %v", thaws, err)
	}
	answerAll(t, r, Thaw)
	wantDone(t, r, 1, true)
}

// The functions' words: the kinds, and the limits for which these tests are made.
func TestKinds(t *testing.T) {
	if Freeze != 1 || Mark != 2 || Thaw != 3 {
		t.Errorf("the kinds are %d, %d, %d", Freeze, Mark, Thaw)
	}
	if api.Volumes != 4 || api.RoundTicks != 6 {
		t.Errorf("the tests are for 4 volumes and 6 ticks, not %d and %d", api.Volumes, api.RoundTicks)
	}
}

// P17.1, P17.2, P17.4: what the faults' texts are.
func TestTexts(t *testing.T) {
	free, busy, gone := finished(t, 7, 0), begun(t, Freeze, 7, 0), begun(t, Mark, 7, 0)
	for _, c := range []struct {
		err  error
		text string
	}{
		{beginError(busy, 8, 0), "round 8: state"},
		{beginError(free, 7, 0), "round 7: stale"},
		{beginError(free, math.MinInt, 0), "round -9223372036854775808: stale"},
		{beginError(free, 8), "round 8: arg"},
		{answerError(free, Command{Thaw, 0, 7}), "round 7: stale"},
		{answerError(gone, Command{Mark, 1, 7}), "round 7: gone"},
		{answerError(gone, Command{Mark, 0, -3}), "round -3: stale"},
		{beginError(nil, 8, 0), "round 0: down"},
		{answerError(nil, Command{Thaw, 0, 7}), "round 0: down"},
	} {
		if c.err == nil || c.err.Error() != c.text {
			t.Errorf("the error is %v, want %s", c.err, c.text)
		}
	}
}

func beginError(r *Round, number int, volumes ...int) error {
	_, err := r.Begin(number, volumes...)
	return err
}

func answerError(r *Round, c Command) error {
	_, err := r.Answer(c)
	return err
}

// P17.1: a zero Round has no round in progress, and none that is finished.
func TestZero(t *testing.T) {
	var plain Round
	for _, r := range []*Round{&plain, {}, new(Round)} {
		want(t, r, 0)
		wantDone(t, r, 0, false)
		ticks(t, r, 20)
		want(t, r, 0)
		wantDone(t, r, 0, false)
		begin(t, r, 1, 3)
		wantDone(t, r, 0, false)
	}
}

// P17.4: a nil Round, with arguments that would be right and others.
func TestNil(t *testing.T) {
	var r *Round
	numbers := slices.Concat(low, []int{1, 2, 3, 4}, high)
	for _, number := range numbers {
		for _, volumes := range [][]int{nil, {}, {0}, {3, 0, 1, 2}, {1, 1}, {-1}, {4}} {
			got, err := r.Begin(number, volumes...)
			wantFault(t, err, 0, api.ErrDown)
			if len(got) != 0 {
				t.Fatalf("Begin(%d, %v) = %v", number, volumes, got)
			}
		}
		for _, kind := range numbers {
			for _, volume := range []int{0, 3, -1, 4} {
				got, err := r.Answer(Command{kind, volume, number})
				wantFault(t, err, 0, api.ErrDown)
				if len(got) != 0 {
					t.Fatalf("Answer(%d, %d, %d) = %v", kind, volume, number, got)
				}
			}
		}
	}
	ticks(t, r, 20)
	want(t, r, 0)
	wantDone(t, r, 0, false)
}

// R3: the volumes that are passed aren't changed, and can be changed by the caller. What is
// behind them in their memory stays as it is.
func TestArgumentsApart(t *testing.T) {
	for _, l := range orders() {
		all := append(slices.Clone(l), 77, 78, 79)
		volumes := all[:len(l)]
		r := &Round{}
		if got, err := r.Begin(3, volumes...); err != nil || !slices.Equal(got, of(Freeze, 3, l...)) {
			t.Fatalf("Begin(3, %v) = %v, %v", l, got, err)
		}
		for i := range volumes {
			volumes[i] = 3 - volumes[i]
		}
		before := slices.Clone(all)
		want(t, r, 3, l...)
		answerAll(t, r, Freeze)
		volumes[0] = 99
		before[0] = 99
		ticks(t, r, api.RoundTicks-1)
		lastTick(t, r, l...)
		answerAll(t, r, Thaw)
		if !slices.Equal(all, before) {
			t.Fatalf("the memory of the volumes became %v, want %v", all, before)
		}
	}
}

// R3: what is returned is the caller's: changing it doesn't change the round, nor does the
// round change it.
func TestResultsApart(t *testing.T) {
	spoil := func(l []Command) {
		t.Helper()
		if len(l) == 0 {
			t.Fatal("there is nothing to spoil")
		}
		for i := range l {
			l[i] = Command{9, 9, 9}
		}
		_ = append(l[:1], Command{8, 8, 8}, Command{8, 8, 8})
	}
	r := &Round{}
	freezes, _ := r.Begin(5, 2, 0, 1)
	spoil(freezes)
	lacks := r.Lacks()
	lacks[0], lacks[1], lacks[2] = 7, 7, 7
	_ = append(lacks[:0], 6, 6, 6, 6)
	want(t, r, 5, 2, 0, 1)
	answer(t, r, Freeze, 5, 1, 0)
	marks, _ := r.Answer(Command{Freeze, 2, 5})
	spoil(marks)
	want(t, r, 5, 2, 0, 1)
	ticks(t, r, api.RoundTicks-1)
	first := r.Tick()
	kept := slices.Clone(first)
	answer(t, r, Thaw, 5, 0)
	ticks(t, r, api.RoundTicks-1)
	second := r.Tick()
	if !slices.Equal(first, kept) || !slices.Equal(second, of(Thaw, 5, 2, 1)) {
		t.Fatalf("the commands became %v, and then %v", first, second)
	}
	spoil(first)
	spoil(second)
	ticks(t, r, api.RoundTicks-1)
	lastTick(t, r, 2, 1)
	answerAll(t, r, Thaw)
	wantDone(t, r, 5, false)
}

// R6: rounds don't share anything, and neither do copies of one, in any phase.
func TestRoundsApart(t *testing.T) {
	for _, phase := range phases {
		r, other := begun(t, phase, 3, 1, 0, 2), &Round{}
		answer(t, r, phase, 3, 0)
		ticks(t, r, 2)
		copied := *r
		answer(t, r, phase, 3, 1)
		ticks(t, r, 3)
		want(t, &copied, 3, 1, 2)
		begin(t, other, 1, 2, 0)
		want(t, r, 3, 2)
		answer(t, &copied, phase, 3, 2)
		ticks(t, &copied, 1)
		want(t, &copied, 3, 1)
		want(t, r, 3, 2)
		for kind := phase; kind <= Thaw; kind++ {
			answerRest(t, r, kind)
		}
		wantDone(t, r, 3, true)
		begin(t, r, 4, 3)
		want(t, &copied, 3, 1)
		want(t, other, 1, 2, 0)
		wantDone(t, &copied, 0, false)
		ticks(t, &copied, 2)
		if phase == Thaw {
			lastTick(t, &copied, 1)
		} else {
			lastTick(t, &copied, 1, 0, 2)
		}
	}
}

// answerRest lets the volumes answer that the phase of r lacks.
func answerRest(t *testing.T, r *Round, kind int) {
	t.Helper()
	for _, c := range of(kind, r.Number(), r.Lacks()...) {
		if _, err := r.Answer(c); err != nil {
			t.Fatalf("Answer(%v): %v", c, err)
		}
	}
}
