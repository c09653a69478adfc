package bits

import (
	"math"
	"slices"
	"testing"

	"isobar/api"
)

// odd are numbers that aren't blocks. Some of them would be blocks if only their lowest
// bits counted.
var odd = []int{
	-1, -2, -7, -8, -9, -64, -256, math.MinInt32, math.MinInt, math.MinInt + 3,
	8, 9, 15, 16, 63, 64, 65, 71, 128, 255, 256, 257, 263,
	1 << 16, 1<<16 + 7, math.MaxInt32, 1 << 32, 1<<32 + 3, math.MaxInt - 1, math.MaxInt,
}

// model is a set as the chapter words it: its blocks in ascending order, each of them
// once.
type model []int

// models returns the 256 sets that there are.
func models() []model {
	all := []model{nil}
	for b := range 8 {
		for _, m := range all {
			all = append(all, append(slices.Clone(m), b))
		}
	}
	return all
}

// has reports whether b is in m.
func (m model) has(b int) bool { return slices.Contains(m, b) }

// with returns m and the blocks of o.
func (m model) with(o ...int) model {
	both := append(slices.Clone(m), o...)
	slices.Sort(both)
	return slices.Compact(both)
}

// without returns m without the blocks of o.
func (m model) without(o ...int) model {
	return slices.DeleteFunc(slices.Clone(m), model(o).has)
}

// text returns the digits of m.
func (m model) text() string {
	s := ""
	for b := range 8 {
		if m.has(b) {
			s += "1"
		} else {
			s += "0"
		}
	}
	return s
}

// blocks returns what a loop over All is given.
func blocks(s Set) []int {
	var got []int
	for b := range s.All() {
		got = append(got, b)
	}
	return got
}

// want checks all that can be asked of s against m.
func want(t *testing.T, s Set, m model) {
	t.Helper()
	if s.Text() != m.text() {
		t.Fatalf("Text = %q, want %q", s.Text(), m.text())
	}
	if s.Len() != len(m) {
		t.Fatalf("%s: Len = %d, want %d", m.text(), s.Len(), len(m))
	}
	for b := range 8 {
		if s.Has(b) != m.has(b) {
			t.Fatalf("%s: Has(%d) = %t", m.text(), b, s.Has(b))
		}
	}
	for _, b := range odd {
		if s.Has(b) {
			t.Fatalf("%s: Has(%d) = true", m.text(), b)
		}
	}
	if got := blocks(s); !slices.Equal(got, m) {
		t.Fatalf("%s: All gives %v, want %v", m.text(), got, m)
	}
	if s != Of(m...) {
		t.Fatalf("%s: not equal to the set of %v", m.text(), m)
	}
}

// P7.1, P7.2: sets whose texts and blocks are written out.
func TestKnown(t *testing.T) {
	cases := []struct {
		of   []int
		text string
		all  []int
	}{
		{nil, "00000000", nil},
		{[]int{}, "00000000", nil},
		{[]int{0}, "10000000", []int{0}},
		{[]int{7}, "00000001", []int{7}},
		{[]int{3, 0, 3}, "10010000", []int{0, 3}},
		{[]int{7, 0}, "10000001", []int{0, 7}},
		{[]int{7, 6, 5, 4, 3, 2, 1, 0}, "11111111", []int{0, 1, 2, 3, 4, 5, 6, 7}},
		{[]int{5, 5, 5, 5, 5, 5, 5, 5, 5}, "00000100", []int{5}},
		{[]int{6, 2, 4, 2, 6}, "00101010", []int{2, 4, 6}},
		{[]int{8}, "00000000", nil},
		{[]int{-1}, "00000000", nil},
		{[]int{3, 0, 3, 8, -1}, "10010000", []int{0, 3}},
		{[]int{math.MinInt, 1, math.MaxInt}, "01000000", []int{1}},
	}
	for _, c := range cases {
		s := Of(c.of...)
		if s.Text() != c.text || s.Len() != len(c.all) || !slices.Equal(blocks(s), c.all) {
			t.Errorf("Of(%v): %q, Len %d, All %v, want %q, %v", c.of, s.Text(), s.Len(), blocks(s), c.text, c.all)
		}
	}
}

// P7.1: the chapter's numbers of blocks are those of package api.
func TestBlocks(t *testing.T) {
	s := Of(api.Blocks-1, api.Blocks)
	if !s.Has(api.Blocks-1) || s.Has(api.Blocks) || s.Len() != 1 || len(s.Text()) != api.Blocks {
		t.Errorf("Of(%d, %d): %s", api.Blocks-1, api.Blocks, s.Text())
	}
}

// P7.1: the zero Set has nothing in it, and is equal to every empty set.
func TestZero(t *testing.T) {
	var zero Set
	want(t, zero, nil)
	empty := []Set{
		Of(), Of(nil...), Of([]int{}...), Of(odd...), Of(4).Without(4), zero.With(8).With(-1),
		zero.Without(0), zero.Or(zero), zero.But(Of(1, 2)), Of(1, 2).But(Of(2, 1)), {},
	}
	for i, s := range empty {
		if s != zero {
			t.Errorf("empty set %d is not equal to the zero Set: %s", i, s.Text())
		}
	}
	want(t, zero.With(3), model{3})
	want(t, zero, nil)
}

// P7.1: all sets, with their blocks in ascending and descending order, told twice, and
// among numbers that aren't blocks.
func TestOf(t *testing.T) {
	for _, m := range models() {
		back := slices.Clone(m)
		slices.Reverse(back)
		want(t, Of(m...), m)
		want(t, Of(back...), m)
		want(t, Of(slices.Concat(m, back)...), m)
		want(t, Of(slices.Concat(back, odd, m, odd)...), m)
		want(t, Of(slices.Repeat(m, 300)...), m)
		want(t, Of(slices.Concat(odd, m)...), m)
		want(t, Of(slices.Concat(slices.Repeat([]int{0}, 1000), m)...), m.with(0))
	}
}

// P7.1: four blocks in all orders, and with some told again in the place of others.
func TestOfOrder(t *testing.T) {
	some := model{0, 2, 5, 7}
	for i := range 4 * 4 * 4 * 4 {
		told := []int{some[i%4], some[i/4%4], some[i/16%4], some[i/64]}
		want(t, Of(told...), model(nil).with(told...))
	}
}

// P7.1: numbers that aren't blocks are ignored one by one, in any place.
func TestOfOdd(t *testing.T) {
	for _, n := range odd {
		want(t, Of(n), nil)
		want(t, Of(n, n), nil)
		want(t, Of(n, 0, 7), model{0, 7})
		want(t, Of(0, n, 7), model{0, 7})
		want(t, Of(0, 7, n), model{0, 7})
	}
}

// P7.1: With and Without for every set and every block, there or not.
func TestWithWithout(t *testing.T) {
	for _, m := range models() {
		s := Of(m...)
		for b := range 8 {
			want(t, s.With(b), m.with(b))
			want(t, s.Without(b), m.without(b))
			want(t, s.With(b).With(b), m.with(b))
			want(t, s.Without(b).Without(b), m.without(b))
			want(t, s.With(b).Without(b), m.without(b))
			want(t, s.Without(b).With(b), m.with(b))
			if m.has(b) && s.With(b) != s || !m.has(b) && s.Without(b) != s {
				t.Fatalf("%s: With or Without %d changes what is so already", s.Text(), b)
			}
		}
		want(t, s, m)
	}
}

// P7.1: With and Without ignore numbers that aren't blocks.
func TestWithWithoutOdd(t *testing.T) {
	for _, m := range models() {
		s := Of(m...)
		for _, n := range odd {
			if s.With(n) != s || s.Without(n) != s {
				t.Fatalf("%s: With(%d) = %s, Without = %s", m.text(), n, s.With(n).Text(), s.Without(n).Text())
			}
		}
		want(t, s, m)
	}
}

// P7.1: Or and But for all pairs of sets; neither of the two is changed.
func TestOrBut(t *testing.T) {
	all := models()
	for _, m := range all {
		for _, n := range all {
			s, o := Of(m...), Of(n...)
			if got, all := s.Or(o), Of(m.with(n...)...); got != all {
				t.Fatalf("%s Or %s = %s", m.text(), n.text(), got.Text())
			}
			if got, rest := s.But(o), Of(m.without(n...)...); got != rest {
				t.Fatalf("%s But %s = %s", m.text(), n.text(), got.Text())
			}
			if s.Text() != m.text() || o.Text() != n.text() {
				t.Fatalf("%s and %s became %s and %s", m.text(), n.text(), s.Text(), o.Text())
			}
		}
	}
}

// P7.1: Or and But with the empty set, with all blocks, and with the set itself.
func TestOrButEdges(t *testing.T) {
	full := Of(0, 1, 2, 3, 4, 5, 6, 7)
	for _, m := range models() {
		s := Of(m...)
		want(t, s.Or(Set{}), m)
		want(t, s.But(Set{}), m)
		want(t, Set{}.Or(s), m)
		want(t, Set{}.But(s), nil)
		want(t, s.Or(s), m)
		want(t, s.But(s), nil)
		want(t, s.Or(full), model{0, 1, 2, 3, 4, 5, 6, 7})
		want(t, s.But(full), nil)
		want(t, full.But(s), model{0, 1, 2, 3, 4, 5, 6, 7}.without(m...))
		want(t, full.But(s).Or(s), model{0, 1, 2, 3, 4, 5, 6, 7})
	}
}

// P7.1: a set stays as it is, whatever is made of it and of what was made of it.
func TestSetStays(t *testing.T) {
	s := Of(1, 4)
	same := s
	grown := s.With(5)
	less := s.Without(1)
	grown.With(6)
	less.Without(4)
	s.Or(Of(0))
	s.But(Of(4))
	want(t, s, model{1, 4})
	want(t, same, model{1, 4})
	want(t, grown, model{1, 4, 5})
	want(t, less, model{4})
}

// Words: sets with the same blocks are equal, however they came to be, also as keys of
// a map; others aren't.
func TestEqual(t *testing.T) {
	ways := []Set{
		Of(2, 6), Of(6, 2, 6), Of(2, 6, 8, -1), Set{}.With(6).With(2), Of(2, 3, 6).Without(3), Of(2).Or(Of(6)),
		Of(0, 1, 2, 6, 7).But(Of(0, 1, 7)), Of(blocks(Of(2, 6))...), Of(2, 6).With(64).Without(math.MaxInt),
	}
	count := map[Set]int{}
	for i, s := range ways {
		if s != ways[0] {
			t.Errorf("way %d: %s", i, s.Text())
		}
		count[s]++
	}
	if len(count) != 1 || count[Of(2, 6)] != len(ways) {
		t.Errorf("%d keys of one set", len(count))
	}
	all := models()
	for i, m := range all {
		for k, n := range all {
			if (Of(m...) == Of(n...)) != (i == k) {
				t.Fatalf("%s == %s is %t", m.text(), n.text(), i != k)
			}
		}
	}
}

// P7.2: a loop that is left after k blocks is given these and no more.
func TestAllLeft(t *testing.T) {
	for _, m := range models() {
		s := Of(m...)
		for k := 1; k <= len(m); k++ {
			var got []int
			for b := range s.All() {
				got = append(got, b)
				if len(got) == k {
					break
				}
			}
			if !slices.Equal(got, m[:k]) {
				t.Fatalf("%s, left after %d: %v", m.text(), k, got)
			}
		}
	}
}

// P7.2: once the function that it calls has returned false, an iterator calls it no more.
func TestAllStops(t *testing.T) {
	for _, m := range models() {
		for k := 1; k <= len(m)+1; k++ {
			calls := 0
			Of(m...).All()(func(int) bool {
				calls++
				return calls < k
			})
			if calls != min(k, len(m)) {
				t.Fatalf("%s: %d calls, of which call %d returned false", m.text(), calls, k)
			}
		}
	}
}

// first returns the first block of s by a return out of the loop, and -1 if there is none.
func first(s Set) int {
	for b := range s.All() {
		return b
	}
	return -1
}

// P7.2: a loop is left by a return, by a label, and gone on with by continue.
func TestAllLeftOtherwise(t *testing.T) {
	if first(Set{}) != -1 || first(Of(7)) != 7 || first(Of(7, 0)) != 0 || first(Of(5, 4)) != 4 {
		t.Error("a loop that is left by a return")
	}
	var pairs []int
outer:
	for a := range Of(1, 3, 5).All() {
		for b := range Of(0, 3, 6).All() {
			if b == 6 {
				continue outer
			}
			if a == 3 && b == 3 {
				break outer
			}
			pairs = append(pairs, 10*a+b)
		}
	}
	if !slices.Equal(pairs, []int{10, 13, 30}) {
		t.Errorf("loops that are left by a label: %v", pairs)
	}
}

// P7.2: one iterator serves several loops, one inside another too, each from the start.
func TestAllAgain(t *testing.T) {
	all := Of(6, 1, 4).All()
	for b := range all {
		if b != 1 {
			t.Errorf("the first block is %d", b)
		}
		break
	}
	var got []int
	for a := range all {
		for b := range all {
			got = append(got, 10*a+b)
		}
	}
	if !slices.Equal(got, []int{11, 14, 16, 41, 44, 46, 61, 64, 66}) {
		t.Errorf("a loop inside another: %v", got)
	}
}

// P7.2: an iterator is over the set that All was called on, whatever its variable has
// since become; a loop that has begun isn't changed either.
func TestAllOfThen(t *testing.T) {
	s := Of(2, 5)
	all := s.All()
	s = s.With(3).Without(5)
	if got := slices.Collect(all); !slices.Equal(got, []int{2, 5}) {
		t.Errorf("the blocks are %v", got)
	}
	var got []int
	for b := range s.All() {
		s = Of(7)
		got = append(got, b)
	}
	if !slices.Equal(got, []int{2, 3}) {
		t.Errorf("the blocks are %v", got)
	}
	want(t, s, model{7})
}

// R3: Of leaves what is passed as it is, doesn't read beyond its length, and keeps none
// of it.
func TestArgumentsStay(t *testing.T) {
	memory := []int{3, 0, 9, 3, -1, 6, 7}
	s := Of(memory[:5]...)
	want(t, s, model{0, 3})
	if !slices.Equal(memory, []int{3, 0, 9, 3, -1, 6, 7}) {
		t.Errorf("the arguments became %v", memory)
	}
	for i := range memory {
		memory[i] = 5
	}
	want(t, s, model{0, 3})
}

// R6: a call returns the same again, whatever was called in between.
func TestSameAgain(t *testing.T) {
	s := Of(4, 2)
	for range 3 {
		want(t, s, model{2, 4})
		want(t, s.With(0), model{0, 2, 4})
		want(t, Of(), nil)
		want(t, s.Or(Of(odd...)), model{2, 4})
		want(t, s.But(Of(2)), model{4})
	}
}
