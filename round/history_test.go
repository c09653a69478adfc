package round

import (
	"math/rand"
	"slices"
	"testing"

	"isobar/api"
)

// progress is a round in progress as the chapter words it.
type progress struct {
	number  int
	volumes []int
	phase   int
	set     map[int]bool // the volumes that answered in this phase
	remain  int
	marked  bool
}

// enter enters a phase.
func (p *progress) enter(phase int) []Command {
	p.phase, p.set, p.remain = phase, map[int]bool{}, 6
	return of(phase, p.number, p.volumes...)
}

// model is a Round as the chapter words it, without any regard to how rounds are built.
type model struct {
	begun    []int
	now      *progress
	finished []progress
}

// begin is what Begin is to return.
func (m *model) begin(number int, volumes []int) ([]Command, api.Errno) {
	switch {
	case m.now != nil:
		return nil, api.ErrState
	case number < 1 || len(m.begun) > 0 && number <= slices.Max(m.begun):
		return nil, api.ErrStale
	case len(volumes) == 0:
		return nil, api.ErrArg
	}
	counts := map[int]int{}
	for _, v := range volumes {
		counts[v]++
		if counts[v] == 2 || v < 0 || v > 3 {
			return nil, api.ErrArg
		}
	}
	m.begun = append(m.begun, number)
	m.now = &progress{number: number, volumes: volumes}
	return m.now.enter(1), api.OK
}

// answer is what Answer is to return.
func (m *model) answer(c Command) ([]Command, api.Errno) {
	switch {
	case m.now == nil || m.now.number != c.Number || m.now.phase != c.Kind:
		return nil, api.ErrStale
	case !slices.Contains(m.now.volumes, c.Volume):
		return nil, api.ErrGone
	}
	m.now.set[c.Volume] = true
	switch {
	case len(m.now.set) < len(m.now.volumes):
		return nil, api.OK
	case m.now.phase == 3:
		m.finished = append(m.finished, *m.now)
		m.now = nil
		return nil, api.OK
	}
	m.now.marked = m.now.phase == 2
	return m.now.enter(m.now.phase + 1), api.OK
}

// tick is what Tick is to return.
func (m *model) tick() []Command {
	if m.now == nil {
		return nil
	}
	m.now.remain--
	switch {
	case m.now.remain > 0:
		return nil
	case m.now.phase < 3:
		return m.now.enter(3)
	}
	m.now.remain = 6
	return of(3, m.now.number, m.lacks()...)
}

// lacks is what Lacks is to return.
func (m *model) lacks() []int {
	if m.now == nil {
		return nil
	}
	return slices.DeleteFunc(slices.Clone(m.now.volumes), func(v int) bool { return m.now.set[v] })
}

// audit is what was passed to a Round, and what can be told from it about what it returns.
type audit struct {
	volumes map[int][]int // of each round that was begun
	answers map[Command]bool
	ticks   int // since commands were returned last
}

// all reports whether all volumes of a round were heard to do what they were told.
func (a *audit) all(kind, number int) bool {
	for _, v := range a.volumes[number] {
		if !a.answers[Command{kind, v, number}] {
			return false
		}
	}
	return len(a.volumes[number]) > 0
}

// wantRight checks P17.4 for commands that were returned, and for the last finished round.
func (a *audit) wantRight(t *testing.T, r *Round, l []Command) {
	t.Helper()
	for _, c := range l {
		right := false
		switch c.Kind {
		case Freeze:
			right = len(a.volumes[c.Number]) == len(l)
		case Mark:
			right = a.all(Freeze, c.Number) && len(a.volumes[c.Number]) == len(l)
		case Thaw:
			right = a.all(Mark, c.Number) || a.ticks == api.RoundTicks
		}
		if !right || !slices.Contains(a.volumes[c.Number], c.Volume) {
			t.Fatalf("%v is told too early, or to the wrong volume, behind the answers %v and %d ticks", c, a.answers, a.ticks)
		}
	}
	if len(l) > 0 {
		a.ticks = 0
	}
	number, complete := r.Done()
	if complete && !a.all(Mark, number) || number != 0 && !a.all(Thaw, number) {
		t.Fatalf("round %d is finished, and marked: %t, behind the answers %v", number, complete, a.answers)
	}
}

// step is a call of a Round: Begin, Answer, or some ticks.
type step struct {
	name    string
	c       Command
	volumes []int
	n       int // the number of a round, or of ticks
}

// run is a Round, its model, and what was passed to it.
type run struct {
	r Round
	m model
	a audit
}

// newRun returns a run of a zero Round.
func newRun() *run {
	return &run{a: audit{volumes: map[int][]int{}, answers: map[Command]bool{}}}
}

// do performs a step on the Round and on the model, and compares them.
func (x *run) do(t *testing.T, s step) {
	t.Helper()
	switch s.name {
	case "begin":
		got, err := x.r.Begin(s.n, s.volumes...)
		if err == nil {
			x.a.volumes[s.n] = s.volumes
		}
		want, e := x.m.begin(s.n, s.volumes)
		x.wantSame(t, got, err, want, e, s.n)
	case "answer":
		x.a.answers[s.c] = true
		got, err := x.r.Answer(s.c)
		want, e := x.m.answer(s.c)
		x.wantSame(t, got, err, want, e, s.c.Number)
	case "tick":
		for range s.n {
			x.a.ticks++
			x.wantSame(t, x.r.Tick(), nil, x.m.tick(), api.OK, 0)
		}
	default:
		t.Fatalf("no step: %v", s)
	}
}

// wantSame compares what a call returned with what it was to return, and then all that can be
// asked.
func (x *run) wantSame(t *testing.T, got []Command, err error, wanted []Command, e api.Errno, at int) {
	t.Helper()
	if e != api.OK {
		wantFault(t, err, at, e)
	} else if err != nil {
		t.Fatalf("the error is %v, want none", err)
	}
	if !slices.Equal(got, wanted) {
		t.Fatalf("the commands are %v, want %v", got, wanted)
	}
	x.a.wantRight(t, &x.r, got)
	if x.m.now == nil {
		want(t, &x.r, 0)
	} else {
		want(t, &x.r, x.m.now.number, x.m.lacks()...)
	}
	if n := len(x.m.finished); n == 0 {
		wantDone(t, &x.r, 0, false)
	} else {
		wantDone(t, &x.r, x.m.finished[n-1].number, x.m.finished[n-1].marked)
	}
}

// play performs steps on a zero Round.
func play(t *testing.T, steps []step) {
	t.Helper()
	defer func() {
		if t.Failed() {
			t.Logf("the history is %v", steps)
		}
	}()
	x := newRun()
	for _, s := range steps {
		x.do(t, s)
	}
}

// playAll performs, behind the steps of start, all histories of n of the steps.
func playAll(t *testing.T, start, steps []step, n int) {
	t.Helper()
	if n == 0 {
		play(t, start)
		return
	}
	for _, s := range steps {
		playAll(t, append(slices.Clone(start), s), steps, n-1)
	}
}

// to returns the steps in which volumes answer.
func to(kind, number int, volumes ...int) []step {
	var out []step
	for _, c := range of(kind, number, volumes...) {
		out = append(out, step{name: "answer", c: c})
	}
	return out
}

// P17.1 to P17.4: all short histories, of a zero Round, and of one that is in each phase.
func TestAllHistories(t *testing.T) {
	steps := []step{
		{name: "begin", n: 1, volumes: []int{0}}, {name: "begin", n: 2, volumes: []int{1, 0}},
		{name: "begin", n: 3, volumes: []int{2, 2}}, {name: "begin", n: 0, volumes: []int{0}},
		{name: "tick", n: 1}, {name: "tick", n: 5},
	}
	for kind := 0; kind <= 4; kind++ {
		steps = append(steps, to(kind, 2, 0, 1)...)
	}
	steps = append(steps, to(1, 1, 0)...)
	steps = append(steps, to(2, 2, 2)...)
	two := step{name: "begin", n: 2, volumes: []int{1, 0}}
	frozen := append([]step{two}, to(1, 2, 0, 1)...)
	playAll(t, nil, steps, 4)
	playAll(t, []step{two}, steps, 3)
	playAll(t, frozen, steps, 3)
	playAll(t, append(frozen, to(2, 2, 1, 0)...), steps, 3)
	playAll(t, []step{two, {name: "tick", n: 6}}, steps, 3)
}

// P17.1 to P17.4: all histories of the answers of two volumes, and of ticks, from the
// beginning of a round beyond its end.
func TestAllRounds(t *testing.T) {
	steps := []step{{name: "tick", n: 3}}
	for kind := Freeze; kind <= Thaw; kind++ {
		steps = append(steps, to(kind, 5, 0, 1)...)
	}
	playAll(t, []step{{name: "begin", n: 5, volumes: []int{0, 1}}}, steps, 6)
}

// randomVolumes returns volumes that a round can have, or now and then others.
func randomVolumes(random *rand.Rand) []int {
	l := random.Perm(4)[:1+random.Intn(4)]
	switch random.Intn(12) {
	case 0:
		l[random.Intn(len(l))] = noVolumes[random.Intn(len(noVolumes))]
	case 1:
		l = append(l, l[random.Intn(len(l))])
	case 2:
		l = nil
	}
	return l
}

// randomStep returns a step that is likely to succeed in x, or now and then another one.
func randomStep(random *rand.Rand, x *run) step {
	near := random.Intn(4) - 1
	if len(x.m.begun) > 0 {
		near += slices.Max(x.m.begun)
	}
	c := Command{random.Intn(5), random.Intn(6) - 1, near}
	if x.m.now != nil && random.Intn(4) > 0 {
		c = Command{x.m.now.phase, x.m.now.volumes[random.Intn(len(x.m.now.volumes))], x.m.now.number}
	}
	switch random.Intn(8) {
	case 0:
		return step{name: "begin", n: near, volumes: randomVolumes(random)}
	case 1, 2, 3:
		return step{name: "tick", n: 1 + random.Intn(2)}
	}
	return step{name: "answer", c: c}
}

// P17.1 to P17.4: long random histories, in which rounds are begun one after the other, and
// some run out of time.
func TestLongHistories(t *testing.T) {
	random := rand.New(rand.NewSource(17))
	marked, not := 0, 0
	for range 300 {
		x := newRun()
		for range 300 {
			x.do(t, randomStep(random, x))
		}
		for _, f := range x.m.finished {
			if f.marked {
				marked++
			} else {
				not++
			}
		}
	}
	if marked < 100 || not < 100 {
		t.Fatalf("%d rounds were marked, and %d weren't: the histories say little", marked, not)
	}
}

// net is a Round, and its volumes, between which commands and answers are lost, doubled and
// reordered.
type net struct {
	r        Round
	commands []Command // those in transit
	answers  []Command // those in transit
	did      audit     // its answers are what the volumes did, received or not
	latest   int
}

// send puts commands in transit, once they are checked.
func (x *net) send(t *testing.T, l []Command) {
	t.Helper()
	x.did.wantRight(t, &x.r, l)
	x.commands = append(x.commands, l...)
}

// begin begins the next round.
func (x *net) begin(t *testing.T, volumes ...int) {
	t.Helper()
	l, err := x.r.Begin(x.latest+1, volumes...)
	if err != nil {
		return
	}
	x.latest++
	x.did.volumes[x.latest] = volumes
	x.send(t, l)
}

// command lets command i arrive.
func (x *net) command(i int) {
	c := x.commands[i]
	x.commands = slices.Delete(x.commands, i, i+1)
	x.did.answers[c] = true
	x.answers = append(x.answers, c)
}

// answer lets answer i arrive.
func (x *net) answer(t *testing.T, i int) {
	t.Helper()
	c := x.answers[i]
	x.answers = slices.Delete(x.answers, i, i+1)
	l, _ := x.r.Answer(c)
	x.send(t, l)
}

// tick lets a tick go by.
func (x *net) tick(t *testing.T) {
	t.Helper()
	x.did.ticks++
	x.send(t, x.r.Tick())
}

// chance performs one of the things that can happen.
func (x *net) chance(t *testing.T, random *rand.Rand) {
	t.Helper()
	for _, l := range []*[]Command{&x.commands, &x.answers} {
		if len(*l) == 0 {
			continue
		}
		i := random.Intn(len(*l))
		switch random.Intn(20) {
		case 0:
			*l = slices.Delete(*l, i, i+1)
		case 1:
			*l = append(*l, (*l)[i])
		}
	}
	switch k := random.Intn(8); {
	case k == 0:
		x.begin(t, random.Perm(4)[:1+random.Intn(4)]...)
	case k == 1:
		x.tick(t)
	case k < 5 && len(x.commands) > 0:
		x.command(random.Intn(len(x.commands)))
	case len(x.answers) > 0:
		x.answer(t, random.Intn(len(x.answers)))
	}
}

// finish lets all messages arrive, in order, and ticks go by, until no round is in progress.
func (x *net) finish(t *testing.T) {
	t.Helper()
	for range 3 * api.RoundTicks {
		for len(x.commands)+len(x.answers) > 0 {
			if len(x.commands) > 0 {
				x.command(0)
			} else {
				x.answer(t, 0)
			}
		}
		if x.r.Number() == 0 {
			return
		}
		x.tick(t)
	}
	t.Fatalf("round %d isn't finished: it lacks %v", x.r.Number(), x.r.Lacks())
}

// P17.4: over links that lose, double and reorder messages, no volume is told to mark before
// all are frozen, nor to thaw before all have marked or the time has run out, and a round that
// is reported as marked was marked by all. Once messages arrive, rounds are finished, and if
// they do from the beginning on, all mark.
func TestUnreliable(t *testing.T) {
	random := rand.New(rand.NewSource(174))
	counts := map[bool]int{}
	for range 300 {
		x := &net{did: audit{volumes: map[int][]int{}, answers: map[Command]bool{}}}
		for range 300 {
			before, _ := x.r.Done()
			x.chance(t, random)
			if number, complete := x.r.Done(); number != before {
				counts[complete]++
			}
		}
		x.finish(t)
		x.begin(t, random.Perm(4)...)
		x.finish(t)
		wantDone(t, &x.r, x.latest, true)
	}
	if counts[true] < 100 || counts[false] < 100 {
		t.Fatalf("%d rounds were marked, and %d weren't: the orders say little", counts[true], counts[false])
	}
}
