package marks

import (
	"math"
	"math/rand"
	"slices"
	"testing"

	"isobar/api"
)

// pair is a volume and a marker that it has.
type pair struct{ volume, mark int }

// model is a table as the chapter words it: pairs, each of them once, in any order.
type model []pair

// put reports whether there may be such a pair, and adds it if it isn't there.
func (m *model) put(p pair) bool {
	if p.volume < 0 || p.volume > 3 || p.mark < 1 {
		return false
	}
	if !slices.Contains(*m, p) {
		*m = append(*m, p)
	}
	return true
}

func (m *model) forget(volume, upto int) {
	*m = slices.DeleteFunc(*m, func(p pair) bool { return p.volume == volume && p.mark <= upto })
}

func (m model) of(volume int) []int {
	var out []int
	for _, p := range m {
		if p.volume == volume {
			out = append(out, p.mark)
		}
	}
	slices.Sort(out)
	return out
}

func (m model) lacks(mark int, volumes []int) []int {
	var out []int
	for _, v := range volumes {
		if !slices.Contains(m, pair{v, mark}) {
			out = append(out, v)
		}
	}
	return out
}

func (m model) newest(volumes []int) int {
	newest := 0
	for _, p := range m {
		if len(volumes) > 0 && len(m.lacks(p.mark, volumes)) == 0 {
			newest = max(newest, p.mark)
		}
	}
	return newest
}

// step is a Put of a marker, or a Forget up to it.
type step struct {
	forget bool
	pair
}

// lists are the volumes that are asked for together: all choices of the four that there are,
// and some with one that is passed twice or doesn't exist.
var lists = [][]int{
	nil, {0}, {1}, {2}, {3}, {0, 1}, {2, 0}, {0, 3}, {2, 1}, {1, 3}, {3, 2}, {2, 1, 0}, {0, 1, 3}, {3, 0, 2}, {1, 3, 2},
	{0, 1, 2, 3}, {3, 1, 0, 2}, {0, 0}, {1, 0, 1}, {2, 3, 3, 2, 0}, {4}, {-1, 0}, {0, 1, 4}, {1, 9, 1},
}

// do performs a step on a table and on its model.
func do(t *testing.T, x *Table, m *model, s step) {
	t.Helper()
	switch {
	case s.forget:
		x.Forget(s.volume, s.mark)
		m.forget(s.volume, s.mark)
	case m.put(s.pair):
		put(t, x, s.volume, s.mark)
	case s.volume < 0, s.volume > 3:
		noPut(t, x, s.volume, s.mark, api.ErrRange)
	default:
		noPut(t, x, s.volume, s.mark, api.ErrArg)
	}
}

// compare compares all that a table tells with its model, for markers up to most.
func compare(t *testing.T, x *Table, m model, most int) {
	t.Helper()
	for v := -1; v <= 4; v++ {
		wantOf(t, x, v, m.of(v)...)
	}
	for _, l := range lists {
		wantNewest(t, x, m.newest(l), l...)
		for mark := -1; mark <= most+1; mark++ {
			wantLacks(t, x, mark, l, m.lacks(mark, l)...)
		}
	}
}

// newest returns the newest marker of each list.
func newest(x *Table) []int {
	var out []int
	for _, l := range lists {
		out = append(out, x.Newest(l...))
	}
	return out
}

// play performs steps on a new table.
func play(t *testing.T, steps []step, most int) {
	t.Helper()
	defer func() {
		if t.Failed() {
			t.Logf("the history is %v", steps)
		}
	}()
	x, m := &Table{}, model{}
	for _, s := range steps {
		do(t, x, &m, s)
	}
	compare(t, x, m, most)
}

// playAll performs all histories of n of these steps behind those before.
func playAll(t *testing.T, before, steps []step, n, most int) {
	t.Helper()
	if n == 0 {
		play(t, before, most)
		return
	}
	for _, s := range steps {
		playAll(t, append(slices.Clone(before), s), steps, n-1, most)
	}
}

// P13.1, P13.2: all short histories, of two volumes and of all of them.
func TestAllHistories(t *testing.T) {
	var two, four []step
	for v := range 2 {
		for m := 1; m <= 3; m++ {
			two = append(two, step{false, pair{v, m}})
		}
		two = append(two, step{true, pair{v, 1}}, step{true, pair{v, 2}})
	}
	playAll(t, nil, two, 4, 3)
	for v := -1; v <= 4; v++ {
		for m := range 3 {
			four = append(four, step{false, pair{v, m}})
		}
		four = append(four, step{true, pair{v, 0}}, step{true, pair{v, 1}}, step{true, pair{v, 4}})
	}
	begun := []step{{false, pair{0, 1}}, {false, pair{1, 2}}, {false, pair{2, 1}}, {false, pair{3, 2}}}
	playAll(t, nil, four, 2, 3)
	playAll(t, begun, four, 2, 3)
}

// P13.2: all tables with the markers 1 and 2.
func TestAllTables(t *testing.T) {
	for n := range 1 << 8 {
		var steps []step
		for i := range 8 {
			if n&(1<<i) != 0 {
				steps = append(steps, step{false, pair{i % 4, 1 + i/4}})
			}
		}
		play(t, steps, 2)
		slices.Reverse(steps)
		play(t, steps, 2)
	}
}

// P13.1 to P13.3: long histories. Without a Forget, no newest marker ever decreases.
func TestLongHistories(t *testing.T) {
	random := rand.New(rand.NewSource(13))
	for n := range 60 {
		x, m := &Table{}, model{}
		most := 2 + n%11
		for range 200 {
			s := step{random.Intn(8) == 0, pair{random.Intn(4), 1 + random.Intn(most)}}
			if random.Intn(12) == 0 {
				s.pair = pair{random.Intn(7) - 1, random.Intn(most+3) - 1}
			}
			before := newest(x)
			do(t, x, &m, s)
			compare(t, x, m, most)
			for i, was := range before {
				if is := x.Newest(lists[i]...); !s.forget && is < was {
					t.Fatalf("Put(%d, %d): Newest(%v) is %d, and was %d", s.volume, s.mark, lists[i], is, was)
				}
			}
		}
	}
}

// P13.3: a Put of any marker, refused or not, never decreases the newest one.
func TestPutNeverDecreases(t *testing.T) {
	marks := slices.Concat([]int{1, 2, 3, 4, 5, 6}, high, low)
	for _, m := range marks {
		for _, v := range []int{-1, 0, 1, 2, 3, 4} {
			x := filled(t, []int{1, 2, 4}, []int{2, 4, 5}, []int{4, 1}, []int{1, 5})
			before := newest(x)
			_ = x.Put(v, m)
			for i, was := range before {
				if is := x.Newest(lists[i]...); is < was {
					t.Fatalf("Put(%d, %d): Newest(%v) is %d, and was %d", v, m, lists[i], is, was)
				}
			}
		}
	}
}

// P13.3: no volume lacks the newest marker, and no greater one has this property.
func TestNewestIsGreatest(t *testing.T) {
	random := rand.New(rand.NewSource(3))
	found := 0
	for range 500 {
		x := &Table{}
		for range random.Intn(60) {
			put(t, x, random.Intn(4), 1+random.Intn(20))
		}
		for _, l := range lists[1:] {
			n := x.Newest(l...)
			if n > 0 {
				found++
				wantLacks(t, x, n, l)
			}
			for m := n + 1; m <= 22; m++ {
				if len(x.Lacks(m, l...)) == 0 {
					t.Fatalf("Newest(%v) = %d, but none of them lacks %d", l, n, m)
				}
			}
		}
	}
	if found < 1000 {
		t.Errorf("only %d newest markers", found)
	}
}

// R6: a call returns the same again, though maps are iterated over in any order.
func TestSameAgain(t *testing.T) {
	a, b := &Table{}, &Table{}
	for m := 1; m <= 40; m++ {
		put(t, a, m%2, m, m+1)
		put(t, b, (41-m)%2, 41-m, 42-m)
	}
	for range 50 {
		for _, x := range []*Table{a, b} {
			wantNewest(t, x, 40, 1, 0)
			l := x.Of(0)
			if len(l) != 40 || !slices.IsSorted(l) || l[0] != 2 || l[39] != 41 {
				t.Fatalf("Of(0) = %v", l)
			}
			if !slices.Equal(l, a.Of(0)) || !slices.Equal(x.Of(1), b.Of(1)) {
				t.Fatal("the markers depend on the order in which they were put")
			}
		}
	}
}

// R6: tables don't share anything with others.
func TestApart(t *testing.T) {
	a, b := filled(t, []int{1, 2}, []int{2}), filled(t, []int{2, 3})
	put(t, a, 0, 3)
	b.Forget(0, 2)
	put(t, b, 1, 3)
	wantAll(t, a, []int{1, 2, 3}, []int{2})
	wantAll(t, b, []int{3}, []int{3})
	wantAll(t, &Table{})
	a.Forget(0, math.MaxInt)
	wantNewest(t, b, 3, 0, 1)
}

// What was forgotten is kept no longer, nor is anything of a Put that was refused.
func TestGone(t *testing.T) {
	x := filled(t, []int{1, 2, 3}, []int{4})
	x.Forget(0, 2)
	if len(x.sets[0]) != 1 {
		t.Errorf("%d markers are kept", len(x.sets[0]))
	}
	x.Forget(0, 3)
	x.Forget(1, 9)
	_ = x.Put(2, 0)
	_ = x.Put(4, 1)
	x.Of(3)
	x.Lacks(1, 0, 1, 2, 3, 4)
	x.Newest(0, 1, 2, 3, 4)
	if len(x.sets) != 0 {
		t.Errorf("%d sets are kept", len(x.sets))
	}
}

// Tables with many markers, and calls with many volumes, are quick.
func TestMany(t *testing.T) {
	const n = 1 << 17
	x := &Table{}
	for m := 1; m <= n; m++ {
		for v := range 4 {
			if m%(v+1) == 0 {
				put(t, x, v, m)
			}
		}
	}
	volumes := slices.Repeat([]int{3, 2, 1, 0}, n)
	wantNewest(t, x, n/12*12, volumes...)
	wantNewest(t, x, 0, append(slices.Clone(volumes), 4)...)
	if l := x.Lacks(n, volumes...); len(l) != n || l[0] != 2 {
		t.Errorf("Lacks returns %d volumes", len(l))
	}
	strangers := []int{0, 1, 2, 3}
	for v := range n {
		strangers = append(strangers, n-v+3)
	}
	wantNewest(t, x, 0, strangers...)
	if l := x.Of(0); len(l) != n || l[0] != 1 || l[n-1] != n {
		t.Errorf("Of returns %d markers", len(l))
	}
	for upto := 1; upto <= n; upto *= 2 {
		x.Forget(0, upto)
		if l := x.Of(0); len(l) != n-upto {
			t.Errorf("Forget(0, %d) leaves %d markers", upto, len(l))
		}
	}
	wantNewest(t, x, 0, 0, 1)
	wantNewest(t, x, n, 1, 3)
}
