package gate

import (
	"errors"
	"math"
	"math/rand"
	"slices"
	"strings"
	"testing"

	"isobar/api"
	"isobar/fault"
)

// low are numbers below 1, which neither a round nor a number of ticks may be.
var low = []int{0, -1, -2, -64, math.MinInt32, math.MinInt + 1, math.MinInt}

// high are great numbers that a round or a number of ticks may well be.
var high = []int{math.MaxInt32, 1 << 32, 1 << 60, math.MaxInt - 1, math.MaxInt}

// calls returns calls with these ids, whose other fields depend on the id.
func calls(ids ...int) []Call {
	var out []Call
	for _, id := range ids {
		out = append(out, Call{Id: id, Block: id % 8, Data: strings.Repeat("x", id%17)})
	}
	return out
}

// frozen returns a gate that is frozen for a round, with calls of these ids waiting.
func frozen(t *testing.T, round, ticks int, ids ...int) *Gate {
	t.Helper()
	g := New()
	freeze(t, g, round, ticks)
	enter(t, g, calls(ids...)...)
	want(t, g, round, len(ids))
	return g
}

// freeze freezes g for a round for which it may be frozen.
func freeze(t *testing.T, g *Gate, round, ticks int) {
	t.Helper()
	if err := g.Freeze(round, ticks); err != nil {
		t.Fatalf("Freeze(%d, %d) = %v", round, ticks, err)
	}
}

// enter lets calls enter a frozen gate that has room for them.
func enter(t *testing.T, g *Gate, cs ...Call) {
	t.Helper()
	for _, c := range cs {
		if passes, err := g.Enter(c); passes || err != nil {
			t.Fatalf("Enter(%v) = %t, %v, want it to wait", c, passes, err)
		}
	}
}

// pass lets a call enter a gate that is open.
func pass(t *testing.T, g *Gate) {
	t.Helper()
	if passes, err := g.Enter(Call{Id: 99}); !passes || err != nil {
		t.Fatalf("Enter = %t, %v, want the call to pass", passes, err)
	}
}

// thawed opens g, which is frozen for that round, and checks which calls it returns.
func thawed(t *testing.T, g *Gate, round int, ids ...int) {
	t.Helper()
	got, err := g.Thaw(round)
	if err != nil || !slices.Equal(got, calls(ids...)) {
		t.Fatalf("Thaw(%d) = %v, %v, want %v", round, got, err, calls(ids...))
	}
	want(t, g, 0, 0)
}

// ticks lets n ticks go by, and checks that they return no calls.
func ticks(t *testing.T, g *Gate, n int) {
	t.Helper()
	for i := range n {
		if got := g.Tick(); len(got) != 0 {
			t.Fatalf("Tick %d of %d = %v", i+1, n, got)
		}
	}
}

// lastTick lets the last tick go by, and checks which calls it returns.
func lastTick(t *testing.T, g *Gate, ids ...int) {
	t.Helper()
	if got := g.Tick(); !slices.Equal(got, calls(ids...)) {
		t.Fatalf("the last Tick = %v, want %v", got, calls(ids...))
	}
	want(t, g, 0, 0)
}

// want checks what g is frozen for, and how many calls wait.
func want(t *testing.T, g *Gate, round, waiting int) {
	t.Helper()
	if g.Frozen() != round || g.Waiting() != waiting {
		t.Fatalf("Frozen %d, Waiting %d, want %d, %d", g.Frozen(), g.Waiting(), round, waiting)
	}
}

// wantFault checks that err is the fault gate, round, directly around e.
func wantFault(t *testing.T, err error, round int, e api.Errno) {
	t.Helper()
	f, ok := err.(*fault.Fault)
	if !ok || f == nil || f.Op != "gate" || f.At != round || f.Err != error(e) {
		t.Fatalf("got %#v, want the fault gate, %d, around %v", err, round, e)
	}
	if fault.Code(err) != e || !errors.Is(err, e) || !Known(e) {
		t.Fatalf("%v doesn't have the code %v, or it isn't known", err, e)
	}
}

// noFreeze, noThaw and noEnter check the error of a call, and that nothing is returned
// beside it.
func noFreeze(t *testing.T, g *Gate, round, ticks int, e api.Errno) {
	t.Helper()
	wantFault(t, g.Freeze(round, ticks), round, e)
}

func noThaw(t *testing.T, g *Gate, round int) {
	t.Helper()
	got, err := g.Thaw(round)
	wantFault(t, err, round, api.ErrState)
	if len(got) != 0 {
		t.Fatalf("Thaw(%d) returns %v beside %v", round, got, err)
	}
}

func noEnter(t *testing.T, g *Gate, round int, e api.Errno) {
	t.Helper()
	passes, err := g.Enter(Call{Id: 98})
	wantFault(t, err, round, e)
	if passes {
		t.Fatalf("Enter returns true beside %v", err)
	}
}

// The chapter's example.
func TestExample(t *testing.T) {
	g := New()
	freeze(t, g, 1, 2)
	enter(t, g, calls(5)...)
	ticks(t, g, 1)
	want(t, g, 1, 1)
	lastTick(t, g, 5)
	pass(t, g)
}

// The texts of the errors, written out.
func TestTexts(t *testing.T) {
	g := frozen(t, 7, 3, 1, 2, 3, 4)
	_, busy := g.Enter(Call{})
	_, state := g.Thaw(8)
	_, none := (*Gate)(nil).Enter(Call{})
	cases := []struct {
		err  error
		want string
	}{
		{busy, "gate 7: busy"},
		{state, "gate 8: state"},
		{none, "gate 0: state"},
		{g.Freeze(6, 1), "gate 6: stale"},
		{g.Freeze(-6, 1), "gate -6: arg"},
		{g.Freeze(9, 0), "gate 9: arg"},
		{g.Freeze(math.MinInt, math.MinInt), "gate -9223372036854775808: arg"},
	}
	for _, c := range cases {
		if c.err == nil || c.err.Error() != c.want {
			t.Errorf("got %v, want %q", c.err, c.want)
		}
	}
}

// P8.1: a new gate and a zero Gate are open, and can be frozen.
func TestOpen(t *testing.T) {
	for _, g := range []*Gate{New(), {}, new(Gate)} {
		if g == nil {
			t.Fatal("New() = nil")
		}
		want(t, g, 0, 0)
		for range api.QueueMax + 2 {
			pass(t, g)
		}
		ticks(t, g, 3)
		noThaw(t, g, 1)
		want(t, g, 0, 0)
		freeze(t, g, 1, 1)
		enter(t, g, calls(5)...)
		lastTick(t, g, 5)
	}
	if New() == New() {
		t.Error("New returns the same gate twice")
	}
}

// P8.1: rounds and ticks below 1, on gates of all kinds, which stay as they are.
func TestFreezeArg(t *testing.T) {
	spent := frozen(t, 3, 1)
	lastTick(t, spent)
	for _, g := range []*Gate{New(), spent, frozen(t, 3, 9), frozen(t, 3, 9, 1, 2), frozen(t, 3, 9, 1, 2, 3, 4)} {
		round, waiting := g.Frozen(), g.Waiting()
		for _, n := range low {
			for _, fine := range append([]int{1, 2, 3, 4}, high...) {
				noFreeze(t, g, n, fine, api.ErrArg)
				noFreeze(t, g, fine, n, api.ErrArg)
			}
			for _, m := range low {
				noFreeze(t, g, n, m, api.ErrArg)
			}
			want(t, g, round, waiting)
		}
	}
}

// P8.1: the least and the greatest rounds and ticks.
func TestFreezeValues(t *testing.T) {
	for _, round := range append([]int{1, 2}, high...) {
		for _, n := range append([]int{1, 2, 3}, high...) {
			g := frozen(t, round, n, 7)
			ticks(t, g, min(n-1, 50))
			want(t, g, round, 1)
			thawed(t, g, round, 7)
			noFreeze(t, g, round, n, api.ErrStale)
		}
	}
	// No round is greater than the greatest one.
	g := frozen(t, math.MaxInt, 1)
	noFreeze(t, g, math.MaxInt-1, 1, api.ErrStale)
	lastTick(t, g)
	for _, round := range append([]int{1}, high...) {
		noFreeze(t, g, round, 1, api.ErrStale)
	}
	pass(t, g)
}

// P8.1: a gate that is frozen for a round can be frozen for it again, with other ticks;
// those that remained don't count any more.
func TestFreezeSame(t *testing.T) {
	for _, before := range []int{1, 2, 5} {
		for gone := range before {
			for _, after := range []int{1, 2, 5, 9} {
				g := frozen(t, 3, before, 5, 6)
				ticks(t, g, gone)
				freeze(t, g, 3, after)
				want(t, g, 3, 2)
				enter(t, g, calls(7)...)
				ticks(t, g, after-1)
				want(t, g, 3, 3)
				lastTick(t, g, 5, 6, 7)
			}
		}
	}
	g := frozen(t, 3, 2, 5)
	for range 20 {
		ticks(t, g, 1)
		freeze(t, g, 3, 2)
	}
	want(t, g, 3, 1)
	thawed(t, g, 3, 5)
}

// P8.1: a gate that is frozen for a round can be frozen for a greater one; what waits
// keeps waiting, for the new round.
func TestFreezeGreater(t *testing.T) {
	for _, next := range append([]int{4, 5, 100}, high...) {
		g := frozen(t, 3, 2, 5, 6)
		ticks(t, g, 1)
		freeze(t, g, next, 3)
		want(t, g, next, 2)
		enter(t, g, calls(7)...)
		noThaw(t, g, 3)
		noFreeze(t, g, 3, 1, api.ErrStale)
		ticks(t, g, 2)
		want(t, g, next, 3)
		lastTick(t, g, 5, 6, 7)
		noFreeze(t, g, next, 1, api.ErrStale)
		noFreeze(t, g, 3, 1, api.ErrStale)
	}
	g := frozen(t, 3, 9, 5, 6)
	freeze(t, g, 4, 9)
	enter(t, g, calls(1, 2)...)
	noEnter(t, g, 4, api.ErrBusy)
	freeze(t, g, 6, 9)
	noEnter(t, g, 6, api.ErrBusy)
	noThaw(t, g, 4)
	thawed(t, g, 6, 5, 6, 1, 2)
}

// P8.1: rounds that are not greater than the latest one, for a gate that is frozen for
// that one, was thawed, or ran out. Rounds that were left out count as well.
func TestFreezeStale(t *testing.T) {
	still, open, spent := frozen(t, 9, 5, 1), frozen(t, 9, 5, 1), frozen(t, 9, 1, 1)
	thawed(t, open, 9, 1)
	lastTick(t, spent, 1)
	for _, g := range []*Gate{still, open, spent} {
		round, waiting := g.Frozen(), g.Waiting()
		for r := 1; r < 9; r++ {
			noFreeze(t, g, r, 1, api.ErrStale)
			noFreeze(t, g, r, math.MaxInt, api.ErrStale)
		}
		if round == 0 {
			noFreeze(t, g, 9, 1, api.ErrStale)
		}
		want(t, g, round, waiting)
		freeze(t, g, 10, 1)
		want(t, g, 10, waiting)
		noFreeze(t, g, 9, 1, api.ErrStale)
	}
}

// P8.1: ErrArg is returned ahead of ErrStale.
func TestFreezeOrder(t *testing.T) {
	g := frozen(t, 5, 2)
	noFreeze(t, g, 4, 0, api.ErrArg)
	noFreeze(t, g, 4, 1, api.ErrStale)
	thawed(t, g, 5)
	noFreeze(t, g, 5, -1, api.ErrArg)
	noFreeze(t, g, 0, 1, api.ErrArg)
	noFreeze(t, g, 5, 1, api.ErrStale)
}

// P8.1, R2: a Freeze that fails changes neither the remaining ticks nor the latest round.
func TestFreezeFails(t *testing.T) {
	g := frozen(t, 3, 3, 5)
	ticks(t, g, 1)
	noFreeze(t, g, 3, 0, api.ErrArg)
	noFreeze(t, g, 8, 0, api.ErrArg)
	noFreeze(t, g, 2, 9, api.ErrStale)
	want(t, g, 3, 1)
	ticks(t, g, 1)
	lastTick(t, g, 5)
	noFreeze(t, g, 8, -1, api.ErrArg)
	noFreeze(t, g, 3, 9, api.ErrStale)
	noFreeze(t, g, 2, 9, api.ErrStale)
	want(t, g, 0, 0)
	pass(t, g)
	freeze(t, g, 4, 1)
}

// P8.2: Thaw of an open gate, whatever it was frozen for before.
func TestThawOpen(t *testing.T) {
	open, spent := frozen(t, 3, 5, 1), frozen(t, 3, 1, 1)
	thawed(t, open, 3, 1)
	lastTick(t, spent, 1)
	for _, g := range []*Gate{New(), {}, open, spent} {
		for _, round := range slices.Concat(low, []int{1, 2, 3, 4}, high) {
			noThaw(t, g, round)
		}
		want(t, g, 0, 0)
		pass(t, g)
	}
}

// P8.2: Thaw for another round than the one for which the gate is frozen, which stays as
// it is.
func TestThawOther(t *testing.T) {
	for n := range api.QueueMax + 1 {
		ids := []int{5, 6, 7, 8}[:n]
		g := frozen(t, 3, 2, ids...)
		for _, round := range slices.Concat(low, []int{1, 2, 4, 5}, high) {
			noThaw(t, g, round)
			want(t, g, 3, n)
		}
		ticks(t, g, 1)
		noThaw(t, g, 2)
		lastTick(t, g, ids...)
	}
}

// P8.2: Thaw returns what waited, in order, and once only; then calls pass.
func TestThaw(t *testing.T) {
	for n := range api.QueueMax + 1 {
		ids := []int{9, 2, 30, 4}[:n]
		for gone := range 3 {
			g := frozen(t, 3, 3, ids...)
			ticks(t, g, gone)
			thawed(t, g, 3, ids...)
			noThaw(t, g, 3)
			ticks(t, g, 5)
			pass(t, g)
			want(t, g, 0, 0)
			freeze(t, g, 4, 1)
			want(t, g, 4, 0)
			lastTick(t, g)
		}
	}
}

// P8.2: QueueMax calls wait, and each further one is refused, until the gate is opened.
func TestEnterBusy(t *testing.T) {
	if api.QueueMax != 4 {
		t.Fatal("the tests are for four calls")
	}
	for _, round := range append([]int{1, 3}, high...) {
		g := frozen(t, round, 3, 1, 2, 3, 4)
		for range 3 {
			noEnter(t, g, round, api.ErrBusy)
			want(t, g, round, 4)
		}
		ticks(t, g, 2)
		noEnter(t, g, round, api.ErrBusy)
		lastTick(t, g, 1, 2, 3, 4)
		pass(t, g)
	}
	g := frozen(t, 1, 3, 1, 2, 3, 4)
	noEnter(t, g, 1, api.ErrBusy)
	thawed(t, g, 1, 1, 2, 3, 4)
	freeze(t, g, 2, 3)
	enter(t, g, calls(5, 6, 7, 8)...)
	noEnter(t, g, 2, api.ErrBusy)
	thawed(t, g, 2, 5, 6, 7, 8)
}

// P8.2: calls come back as they entered, whatever is in them; equal ones too.
func TestEnterValues(t *testing.T) {
	odd := []Call{
		{}, {}, {Id: -1, Block: -1}, {Id: math.MaxInt, Block: math.MinInt, Data: "a"},
		{Id: 7, Block: 8, Data: strings.Repeat("y", 100000)}, {Data: "\x00\xff\n"}, {Block: 99}, {Id: 7, Data: "é"},
	}
	for i := range odd {
		for k := range odd {
			in := []Call{odd[i], odd[k], odd[i], odd[k]}
			g := frozen(t, 3, 1)
			enter(t, g, in...)
			if got, err := g.Thaw(3); err != nil || !slices.Equal(got, in) {
				t.Fatalf("Thaw = %v, %v, want %v", got, err, in)
			}
			freeze(t, g, 4, 1)
			enter(t, g, in...)
			if got := g.Tick(); !slices.Equal(got, in) {
				t.Fatalf("Tick = %v, want %v", got, in)
			}
		}
	}
}

// P8.2, P8.4: a gate is opened by the last one of its ticks: not earlier, and not later.
func TestTick(t *testing.T) {
	for n := 1; n <= 40; n++ {
		g := frozen(t, 3, n, 5, 6)
		for range n - 1 {
			ticks(t, g, 1)
			want(t, g, 3, 2)
		}
		lastTick(t, g, 5, 6)
		pass(t, g)
		ticks(t, g, 3)
		noThaw(t, g, 3)
	}
}

// P8.2: a call can enter between any two ticks; the ticks don't start anew.
func TestTickBetween(t *testing.T) {
	g := frozen(t, 3, 4, 1)
	ticks(t, g, 1)
	enter(t, g, calls(2)...)
	ticks(t, g, 1)
	enter(t, g, calls(3)...)
	ticks(t, g, 1)
	enter(t, g, calls(4)...)
	noEnter(t, g, 3, api.ErrBusy)
	lastTick(t, g, 1, 2, 3, 4)
}

// P8.2: ticks of an open gate aren't taken from those of the next round, and those that
// were left of a round that was thawed aren't added to them.
func TestTickOpen(t *testing.T) {
	g := New()
	ticks(t, g, 100)
	freeze(t, g, 1, 3)
	ticks(t, g, 1)
	thawed(t, g, 1)
	ticks(t, g, 100)
	freeze(t, g, 2, 2)
	enter(t, g, calls(5)...)
	ticks(t, g, 1)
	lastTick(t, g, 5)
}

// P8.3: the codes, written out, and numbers that are no codes.
func TestKnown(t *testing.T) {
	known := map[api.Errno]bool{
		api.OK: false, api.ErrArg: true, api.ErrShort: false, api.ErrTail: false, api.ErrSum: false,
		api.ErrRange: false, api.ErrFull: false, api.ErrBusy: true, api.ErrNone: false,
		api.ErrState: true, api.ErrStale: true, api.ErrDown: false, api.ErrGone: false,
		-1: false, 13: false, 99: false, 1 << 32: false, 1<<32 + 1: false, -7: false,
		math.MaxInt: false, math.MinInt: false, 256 + 7: false, 64 + 9: false,
	}
	for e, want := range known {
		if Known(e) != want {
			t.Errorf("Known(%d) = %t", e, !want)
		}
	}
	for e := api.Errno(-300); e <= 300; e++ {
		if Known(e) != (e == 1 || e == 7 || e == 9 || e == 10) {
			t.Errorf("Known(%d) = %t", e, Known(e))
		}
	}
}

// P8.3: a nil Gate. Its errors are those of round 0, whatever is passed.
func TestNil(t *testing.T) {
	var g *Gate
	numbers := slices.Concat(low, []int{1, 2, 3}, high)
	for _, n := range numbers {
		for _, m := range numbers {
			wantFault(t, g.Freeze(n, m), 0, api.ErrState)
		}
		got, err := g.Thaw(n)
		wantFault(t, err, 0, api.ErrState)
		if len(got) != 0 {
			t.Errorf("Thaw(%d) = %v", n, got)
		}
	}
	for range api.QueueMax + 2 {
		noEnter(t, g, 0, api.ErrState)
		ticks(t, g, 1)
		want(t, g, 0, 0)
	}
}

// R3: what is returned is the caller's: changing it doesn't change the gate, nor does
// the gate change it.
func TestResultsStay(t *testing.T) {
	g := frozen(t, 1, 9, 1, 2)
	first, _ := g.Thaw(1)
	freeze(t, g, 2, 1)
	enter(t, g, calls(3, 4)...)
	first[0] = Call{Id: 77}
	_ = append(first, Call{Id: 78}, Call{Id: 79})
	_ = append(first[:1], calls(80)...)
	second := g.Tick()
	if !slices.Equal(second, calls(3, 4)) {
		t.Fatalf("the second calls are %v", second)
	}
	freeze(t, g, 3, 1)
	enter(t, g, calls(5, 6, 7)...)
	if first[0].Id != 77 || first[1].Id != 80 || !slices.Equal(second, calls(3, 4)) {
		t.Fatalf("the calls became %v and %v", first, second)
	}
	lastTick(t, g, 5, 6, 7)
}

// R6: gates don't share anything, a copy of a gate and the gate included.
func TestGatesApart(t *testing.T) {
	g := frozen(t, 3, 2, 1, 2)
	h := *g
	enter(t, g, calls(3)...)
	enter(t, &h, calls(4, 5)...)
	other := frozen(t, 1, 1, 9)
	ticks(t, g, 1)
	want(t, &h, 3, 4)
	thawed(t, &h, 3, 1, 2, 4, 5)
	want(t, g, 3, 3)
	want(t, other, 1, 1)
	lastTick(t, g, 1, 2, 3)
	lastTick(t, other, 9)
	freeze(t, other, 2, 1)
}

// model is a gate as the chapter words it, without any regard to how gates are built.
type model struct {
	isFrozen bool
	round    int
	remain   int
	rounds   []int
	queue    []Call
}

func (m *model) freeze(round, ticks int) api.Errno {
	same := m.isFrozen && m.round == round
	switch {
	case round < 1 || ticks < 1:
		return api.ErrArg
	case !same && len(m.rounds) > 0 && round <= slices.Max(m.rounds):
		return api.ErrStale
	}
	m.isFrozen, m.round, m.remain = true, round, ticks
	m.rounds = append(m.rounds, round)
	return api.OK
}

func (m *model) thaw(round int) ([]Call, api.Errno) {
	if !m.isFrozen || m.round != round {
		return nil, api.ErrState
	}
	return m.open(), api.OK
}

func (m *model) enter(c Call) (bool, api.Errno) {
	switch {
	case !m.isFrozen:
		return true, api.OK
	case len(m.queue) == 4:
		return false, api.ErrBusy
	}
	m.queue = append(m.queue, c)
	return false, api.OK
}

func (m *model) tick() []Call {
	if !m.isFrozen {
		return nil
	}
	if m.remain--; m.remain > 0 {
		return nil
	}
	return m.open()
}

func (m *model) open() []Call {
	out := m.queue
	m.isFrozen, m.queue = false, nil
	return out
}

// step is a call on a gate.
type step struct {
	kind         string
	round, ticks int
}

// run is a gate, its model, and all calls that were told to wait and that came back.
type run struct {
	g              *Gate
	m              model
	id             int
	waited, passed []Call
}

// do performs a step on the gate and on the model, and compares them.
func (r *run) do(t *testing.T, s step) {
	t.Helper()
	switch s.kind {
	case "freeze":
		sameError(t, r.g.Freeze(s.round, s.ticks), s.round, r.m.freeze(s.round, s.ticks))
	case "thaw":
		got, err := r.g.Thaw(s.round)
		want, e := r.m.thaw(s.round)
		sameError(t, err, s.round, e)
		r.back(t, got, want)
	case "enter":
		r.enter(t)
	case "tick":
		r.back(t, r.g.Tick(), r.m.tick())
	default:
		t.Fatalf("no step: %v", s)
	}
	if r.m.isFrozen {
		want(t, r.g, r.m.round, len(r.m.queue))
	} else {
		want(t, r.g, 0, 0)
	}
}

// enter lets a call enter that no other one is equal to.
func (r *run) enter(t *testing.T) {
	t.Helper()
	r.id++
	c := Call{Id: r.id, Block: -r.id, Data: "abc"[:r.id%4]}
	passes, err := r.g.Enter(c)
	want, e := r.m.enter(c)
	sameError(t, err, r.m.round, e)
	if passes != want {
		t.Fatalf("Enter = %t", passes)
	}
	if !passes && err == nil {
		r.waited = append(r.waited, c)
	}
}

// back notes calls that came back.
func (r *run) back(t *testing.T, got, want []Call) {
	t.Helper()
	if !slices.Equal(got, want) {
		t.Fatalf("the calls %v, want %v", got, want)
	}
	r.passed = append(r.passed, got...)
}

// end lets the remaining ticks go by, and checks that the gate is open, and that what
// waited has come back: all of it, each call once, in the order in which they entered.
func (r *run) end(t *testing.T) {
	t.Helper()
	if r.m.isFrozen {
		for range r.m.remain {
			r.do(t, step{"tick", 0, 0})
		}
	}
	if r.g.Frozen() != 0 || !slices.Equal(r.passed, r.waited) {
		t.Fatalf("of %v, %v came back; frozen for %d", r.waited, r.passed, r.g.Frozen())
	}
}

// sameError checks an error against the code that the model gives.
func sameError(t *testing.T, err error, round int, e api.Errno) {
	t.Helper()
	if e != api.OK {
		wantFault(t, err, round, e)
	} else if err != nil {
		t.Fatalf("got %v, want no error", err)
	}
}

// play performs steps on a new gate.
func play(t *testing.T, steps []step) {
	t.Helper()
	defer func() {
		if t.Failed() {
			t.Logf("the history is %v", steps)
		}
	}()
	r := &run{g: New()}
	for _, s := range steps {
		r.do(t, s)
	}
	r.end(t)
}

// playAll performs on a gate, behind the steps of start, all histories of n steps.
func playAll(t *testing.T, start []step, n int) {
	t.Helper()
	steps := []step{
		{"freeze", 1, 1}, {"freeze", 1, 2}, {"freeze", 2, 1}, {"freeze", 2, 2}, {"freeze", 3, 2},
		{"freeze", 0, 1}, {"freeze", 2, 0}, {"thaw", 1, 0}, {"thaw", 2, 0}, {"thaw", 0, 0},
		{"enter", 0, 0}, {"tick", 0, 0},
	}
	if n == 0 {
		play(t, start)
		return
	}
	for _, s := range steps {
		playAll(t, append(slices.Clone(start), s), n-1)
	}
}

// P8.1 to P8.4: all short histories, of a new gate and of gates where calls wait.
func TestAllHistories(t *testing.T) {
	enter, tick := step{"enter", 0, 0}, step{"tick", 0, 0}
	playAll(t, nil, 4)
	playAll(t, []step{{"freeze", 1, 2}, enter, enter, enter}, 4)
	playAll(t, []step{{"freeze", 2, 1}, enter, tick, {"freeze", 3, 3}, enter}, 4)
}

// P8.4: long histories, most of whose rounds are near the latest one.
func TestLongHistories(t *testing.T) {
	random := rand.New(rand.NewSource(8))
	for range 300 {
		var history []step
		round := 1
		for range 200 {
			near := round + random.Intn(4) - 2
			switch random.Intn(8) {
			case 0:
				history = append(history, step{"freeze", near, random.Intn(9)})
				round = max(round, near)
			case 1:
				history = append(history, step{"thaw", near, 0})
			case 2, 3:
				history = append(history, step{"tick", 0, 0})
			default:
				history = append(history, step{"enter", 0, 0})
			}
		}
		play(t, history)
	}
}
