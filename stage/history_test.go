package stage

import (
	"math/rand"
	"slices"
	"testing"

	"isobar/api"
	"isobar/fault"
)

// entry is a record of a model.
type entry struct {
	r       api.Record
	durable bool
}

// model is a stage as the chapter words it.
type model struct {
	first, mark int
	entries     []entry
}

func (m *model) take(r api.Record) int {
	// The records of these tests are valid unless they are zero but for their Seq.
	if r.Kind != 0 && r.Seq == m.first+len(m.entries) {
		m.entries = append(m.entries, entry{r: r})
	}
	return m.first + len(m.entries) - 1
}

func (m *model) flush() {
	for i := range m.entries {
		m.entries[i].durable = true
	}
}

func (m *model) crash(keep int) {
	var left []entry
	for _, e := range m.entries {
		if e.durable || keep > 0 {
			left = append(left, entry{e.r, true})
		}
		if !e.durable {
			keep--
		}
	}
	m.entries = left
}

func (m *model) marks() []int {
	var out []int
	for _, e := range m.entries {
		if e.durable && e.r.Kind == api.Mark {
			out = append(out, e.r.Number)
		}
	}
	return out
}

func (m *model) upTo(number int) []api.Record {
	var out []api.Record
	for _, e := range m.entries {
		out = append(out, e.r)
		if e.durable && e.r.Kind == api.Mark && e.r.Number == number {
			return out
		}
	}
	return nil
}

func (m *model) drop(number int) bool {
	n := len(m.upTo(number))
	if n == 0 {
		return false
	}
	m.entries = m.entries[n:]
	m.first += n
	m.mark = number
	return true
}

func (m *model) cut() int {
	n := len(m.entries)
	m.entries = nil
	return n
}

func (m *model) present() []api.Record {
	var out []api.Record
	for _, e := range m.entries {
		out = append(out, e.r)
	}
	return out
}

// step is a call on a stage. The number of a record counts from the next one on, as 0.
type step struct {
	kind string
	n    int
}

// run is a stage and its model, and the records that were appended and are not lost since,
// with those of them that were dropped.
type run struct {
	s                 *Stage
	m                 model
	appended, dropped []api.Record
	most              int // the greatest number of a marker in these steps
}

// start returns a stage with a first number that isn't clamped, and its model.
func start(first int) *run {
	return &run{s: New(first), m: model{first: first}, most: 3}
}

// record returns the record of a step; false if it is none that takes one.
func (r *run) record(s step) (api.Record, bool) {
	next := r.m.first + len(r.m.entries)
	switch s.kind {
	case "write":
		return write(next + s.n), true
	case "mark":
		return mark(next, s.n), true
	case "wrong":
		return api.Record{Seq: next + s.n}, true
	}
	return api.Record{}, false
}

// do performs a step on the stage and on the model, and compares them.
func (r *run) do(t *testing.T, s step) {
	t.Helper()
	x, takes := r.record(s)
	switch {
	case takes:
		before := len(r.m.entries)
		want := r.m.take(x)
		if got := r.s.Take(x); got != want {
			t.Fatalf("Take(%v) = %d, want %d", x, got, want)
		}
		r.appended = append(r.appended, r.m.present()[before:]...)
	case s.kind == "flush":
		r.s.Flush()
		r.m.flush()
	case s.kind == "crash":
		r.s.Crash(s.n)
		r.m.crash(s.n)
		r.appended = r.appended[:len(r.dropped)+len(r.m.entries)]
	case s.kind == "drop":
		r.drop(t, s.n)
	case s.kind == "cut":
		if got, want := r.s.Cut(), r.m.cut(); got != want {
			t.Fatalf("Cut = %d, want %d", got, want)
		}
		r.appended = r.appended[:len(r.dropped)]
	default:
		t.Fatalf("no step: %v", s)
	}
	r.compare(t)
}

// drop drops up to a marker.
func (r *run) drop(t *testing.T, number int) {
	t.Helper()
	gone, _ := r.s.UpTo(number)
	err := r.s.Drop(number)
	if !r.m.drop(number) {
		wantFault(t, err, number)
	} else if err != nil {
		t.Fatalf("Drop(%d) = %v", number, err)
	}
	r.dropped = append(r.dropped, gone...)
}

// compare compares all that a stage tells with the model.
func (r *run) compare(t *testing.T) {
	t.Helper()
	fast := r.m.first - 1
	for _, e := range r.m.entries {
		if e.durable {
			fast = e.r.Seq
		}
	}
	wantLast(t, r.s, r.m.first+len(r.m.entries)-1, fast)
	wantDropped(t, r.s, r.m.first-1, r.m.mark)
	wantMarks(t, r.s, r.m.marks()...)
	for number := range r.most + 2 {
		if want := r.m.upTo(number); want != nil {
			wantUpTo(t, r.s, number, want)
		} else {
			wantNone(t, r.s, number)
		}
	}
}

// finish checks what is present, and that it follows what was dropped: together they are
// what was appended.
func (r *run) finish(t *testing.T) {
	t.Helper()
	present := r.m.present()
	wantPresent(t, r.s, present)
	if all := slices.Concat(r.dropped, present); !slices.Equal(all, r.appended) {
		t.Fatalf("dropped and present are %v, appended were %v", all, r.appended)
	}
}

// play performs steps on a new stage.
func play(t *testing.T, first int, steps []step) {
	t.Helper()
	defer func() {
		if t.Failed() {
			t.Logf("the history on a stage of %d is %v", first, steps)
		}
	}()
	r := start(first)
	for _, s := range steps {
		r.do(t, s)
	}
	r.finish(t)
}

// playAll performs all histories of n of these steps behind those before.
func playAll(t *testing.T, first int, before, steps []step, n int) {
	t.Helper()
	if n == 0 {
		play(t, first, before)
		return
	}
	for _, s := range steps {
		playAll(t, first, append(slices.Clone(before), s), steps, n-1)
	}
}

// P12.1 to P12.4: all short histories, of empty stages and of others.
func TestAllHistories(t *testing.T) {
	steps := []step{
		{"write", 0}, {"mark", 1}, {"mark", 2}, {"flush", 0},
		{"crash", 0}, {"crash", 1}, {"drop", 1}, {"drop", 2}, {"cut", 0},
	}
	playAll(t, 1, nil, steps, 5)
	begun := []step{{"write", 0}, {"mark", 1}, {"flush", 0}, {"mark", 2}, {"write", 0}, {"mark", 1}}
	playAll(t, 7, begun, steps, 4)
	more := append(steps, step{"write", -1}, step{"write", 1}, step{"wrong", 0}, step{"drop", 0}, step{"crash", -1}, step{"crash", 5})
	playAll(t, 300, begun[:4], more, 3)
}

// P12.4: long histories of several kinds: with crashes and cuts, and without them.
func TestLongHistories(t *testing.T) {
	random := rand.New(rand.NewSource(12))
	kinds := []string{
		"write", "write", "write", "write", "mark", "mark", "mark", "flush", "drop", "wrong", "late",
		"crash", "crash", "cut",
	}
	for n := range 200 {
		r := start(1 + n*n)
		r.most = 1 + n%9
		last := len(kinds) - n%4
		for range 300 {
			s := step{kinds[random.Intn(last)], 0}
			switch s.kind {
			case "mark":
				s.n = 1 + random.Intn(r.most)
			case "drop":
				s.n = random.Intn(r.most + 2)
			case "crash":
				s.n = random.Intn(12) - 2
			case "late":
				s = step{"write", random.Intn(9) - 4}
			}
			r.do(t, s)
		}
		r.finish(t)
	}
}

// R3: what UpTo and Marks return can be changed and appended to, and stays as it is when the
// stage changes.
func TestMemory(t *testing.T) {
	s := filled(t, "a1b2c3")
	all := records(1, "a1b2c3")
	for number := 1; number <= 3; number++ {
		l, _ := s.UpTo(number)
		for range 10 {
			l = append(l, mark(99, 99))
		}
		clear(l)
		marks := s.Marks()
		marks[0] = 98
		_ = append(marks[:1], 97, 96, 95)
	}
	wantMarks(t, s, 1, 2, 3)
	wantUpTo(t, s, 3, all)

	l, _ := s.UpTo(2)
	again, _ := s.UpTo(2)
	marks := s.Marks()
	again[0] = mark(99, 99)
	drop(t, s, 1, 2)
	cut(t, s, 4)
	takeAll(t, s, records(3, "9999"))
	flush(t, s)
	if !slices.Equal(l, all[:4]) || !slices.Equal(marks, []int{1, 2, 3}) {
		t.Fatalf("what was returned is %v and %v now", l, marks)
	}
}

// R6: stages don't share anything with others.
func TestApart(t *testing.T) {
	a, b := filled(t, "a1|2"), filled(t, "1b3|c")
	drop(t, b, 1, 1)
	cut(t, a, 3)
	wantMarks(t, b, 3)
	takeAll(t, a, records(1, "45"))
	flush(t, a)
	wantLast(t, b, 4, 3)
	wantUpTo(t, b, 3, records(1, "1b3")[1:])
	wantDropped(t, a, 0, 0)
	wantMarks(t, New(1))
	drop(t, a, 5, 2)
	wantPresent(t, b, records(1, "1b3c")[1:])
}

// What was dropped, lost or cut is kept no longer, though the memory may still be in use.
func TestGone(t *testing.T) {
	s := filled(t, "a1b2|c3d4")
	held := s.records
	wantKept := func(want ...int) {
		t.Helper()
		for i, r := range held {
			if kept := r != (api.Record{}); kept != slices.Contains(want, i) {
				t.Fatalf("record %d: kept %t", i+1, kept)
			}
		}
	}
	wantKept(0, 1, 2, 3, 4, 5, 6, 7)
	drop(t, s, 1, 2)
	wantKept(2, 3, 4, 5, 6, 7)
	s.Crash(3)
	wantKept(2, 3, 4, 5, 6)
	cut(t, s, 5)
	wantKept()
}

// A stage that is emptied again and again has no memory for all that it ever had, and long
// ones are as quick.
func TestMany(t *testing.T) {
	s := New(1)
	for n := 1; n <= 1<<16; n += 2 {
		s.Take(write(n))
		s.Take(mark(n+1, n+1))
		s.Flush()
		if err := s.Drop(n + 1); err != nil {
			t.Fatal(err)
		}
	}
	wantDropped(t, s, 1<<16, 1<<16)
	if cap(s.records) > 100 {
		t.Errorf("there is room for %d records", cap(s.records))
	}
	for n := 1<<16 + 1; n <= 1<<17; n++ {
		s.Take(mark(n, n))
	}
	s.Flush()
	for n := 1<<16 + 1; n <= 1<<17; n++ {
		if err := s.Drop(n); err != nil {
			t.Fatal(err)
		}
	}
	if n, m := s.Dropped(); n != 1<<17 || m != 1<<17 || fault.Code(s.Drop(1<<17)) != api.ErrNone {
		t.Errorf("Dropped = %d, %d", n, m)
	}
}
