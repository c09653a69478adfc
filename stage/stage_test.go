package stage

import (
	"errors"
	"math"
	"slices"
	"strings"
	"testing"

	"isobar/api"
	"isobar/fault"
)

// top is the greatest number that a record may have, as chapters 1 and 5 word it.
const top = 1<<60 - 1

// far are numbers that no marker of these tests has.
var far = []int{
	-1, -2, -7, -8, math.MinInt32, -1 << 60, math.MinInt + 1, math.MinInt,
	1 << 20, math.MaxInt32, 1<<32 + 7, 1 << 60, math.MaxInt - 1, math.MaxInt,
}

// write and mark return valid records for valid numbers.
func write(seq int) api.Record {
	return api.Record{Seq: seq, Kind: api.Write, Block: (seq%8 + 8) % 8, Data: strings.Repeat("d", (seq%17+17)%17)}
}

func mark(seq, number int) api.Record {
	return api.Record{Seq: seq, Kind: api.Mark, Number: number}
}

// records returns valid records from the number first on: a marker with the number of each
// digit of s, and a write for each other letter.
func records(first int, s string) []api.Record {
	var l []api.Record
	for i, c := range []byte(s) {
		if '1' <= c && c <= '9' {
			l = append(l, mark(first+i, int(c-'0')))
		} else {
			l = append(l, write(first+i))
		}
	}
	return l
}

// filled returns a stage with the first number 1, and with the records of s, of which those
// ahead of a bar are durable.
func filled(t *testing.T, s string) *Stage {
	t.Helper()
	st := New(1)
	durable, loose, _ := strings.Cut(s, "|")
	takeAll(t, st, records(1, durable))
	st.Flush()
	takeAll(t, st, records(1+len(durable), loose))
	wantLast(t, st, len(durable)+len(loose), len(durable))
	return st
}

// take takes a record, and checks what is returned.
func take(t *testing.T, s *Stage, r api.Record, want int) {
	t.Helper()
	_, fast := s.Last()
	if got := s.Take(r); got != want {
		t.Fatalf("Take(%#v) = %d, want %d", r, got, want)
	}
	wantLast(t, s, want, fast)
}

// takeAll takes records of which each is the next one.
func takeAll(t *testing.T, s *Stage, l []api.Record) {
	t.Helper()
	for _, r := range l {
		take(t, s, r, r.Seq)
	}
}

// flush makes all records durable, and checks what Last returns then.
func flush(t *testing.T, s *Stage) {
	t.Helper()
	taken, _ := s.Last()
	s.Flush()
	wantLast(t, s, taken, taken)
}

// drop drops the records up to a marker, and checks what remains.
func drop(t *testing.T, s *Stage, mark, number int) {
	t.Helper()
	taken, fast := s.Last()
	if err := s.Drop(mark); err != nil {
		t.Fatalf("Drop(%d) = %v", mark, err)
	}
	wantDropped(t, s, number, mark)
	wantLast(t, s, taken, fast)
}

// noDrop checks that a Drop is refused, and changes nothing.
func noDrop(t *testing.T, s *Stage, mark int) {
	t.Helper()
	taken, fast := s.Last()
	number, last := s.Dropped()
	marks := s.Marks()
	wantNone(t, s, mark)
	wantFault(t, s.Drop(mark), mark)
	wantDropped(t, s, number, last)
	wantLast(t, s, taken, fast)
	wantMarks(t, s, marks...)
}

// cut cuts a stage, and checks how many records there were, and what is left.
func cut(t *testing.T, s *Stage, want int) {
	t.Helper()
	number, mark := s.Dropped()
	if n := s.Cut(); n != want {
		t.Fatalf("Cut = %d, want %d", n, want)
	}
	wantDropped(t, s, number, mark)
	wantLast(t, s, number, number)
	wantMarks(t, s)
}

// wantLast checks the numbers of the last record and of the last durable one.
func wantLast(t *testing.T, s *Stage, taken, fast int) {
	t.Helper()
	if a, b := s.Last(); a != taken || b != fast {
		t.Fatalf("Last = %d, %d, want %d, %d", a, b, taken, fast)
	}
}

// wantDropped checks what Dropped returns.
func wantDropped(t *testing.T, s *Stage, number, mark int) {
	t.Helper()
	if n, m := s.Dropped(); n != number || m != mark {
		t.Fatalf("Dropped = %d, %d, want %d, %d", n, m, number, mark)
	}
}

// wantMarks checks the durable markers.
func wantMarks(t *testing.T, s *Stage, want ...int) {
	t.Helper()
	if got := s.Marks(); !slices.Equal(got, want) {
		t.Fatalf("Marks = %v, want %v", got, want)
	}
}

// wantUpTo checks the records up to a durable marker.
func wantUpTo(t *testing.T, s *Stage, mark int, want []api.Record) {
	t.Helper()
	if got, ok := s.UpTo(mark); !ok || !slices.Equal(got, want) {
		t.Fatalf("UpTo(%d) = %v, %t, want %v", mark, got, ok, want)
	}
}

// wantNone checks that there is no such durable marker.
func wantNone(t *testing.T, s *Stage, mark int) {
	t.Helper()
	if got, ok := s.UpTo(mark); len(got) != 0 || ok {
		t.Fatalf("UpTo(%d) = %v, %t, want none", mark, got, ok)
	}
}

// wantFault checks that err is the fault stage, mark, directly around ErrNone.
func wantFault(t *testing.T, err error, mark int) {
	t.Helper()
	f, ok := err.(*fault.Fault)
	if !ok || f == nil || f.Op != "stage" || f.At != mark || f.Err != error(api.ErrNone) {
		t.Fatalf("got %#v, want the fault stage, %d, around none", err, mark)
	}
	if fault.Code(err) != api.ErrNone || !errors.Is(err, api.ErrNone) {
		t.Fatalf("%v doesn't have the code none", err)
	}
}

// wantPresent checks that the records that are present are these. It makes them durable, and
// appends a marker.
func wantPresent(t *testing.T, s *Stage, want []api.Record) {
	t.Helper()
	const number = 1 << 40
	taken, _ := s.Last()
	end := mark(taken+1, number)
	take(t, s, end, taken+1)
	flush(t, s)
	wantUpTo(t, s, number, append(slices.Clone(want), end))
}

// The chapter's example.
func TestExample(t *testing.T) {
	s := New(1)
	take(t, s, write(2), 0)
	take(t, s, write(1), 1)
	take(t, s, write(2), 2)
}

// P12.1: the first number is clamped, and there are no records.
func TestNew(t *testing.T) {
	cases := []struct{ first, want int }{
		{0, 1}, {1, 1}, {2, 2}, {-1, 1}, {-2, 1}, {-5, 1}, {math.MinInt32, 1}, {-top, 1},
		{math.MinInt + 1, 1}, {math.MinInt, 1}, {7, 7}, {300, 300}, {math.MaxInt32, math.MaxInt32}, {1 << 32, 1 << 32},
		{top - 1, top - 1}, {top, top}, {top + 1, top}, {top + 2, top}, {1 << 61, top}, {math.MaxInt - 1, top}, {math.MaxInt, top},
	}
	for _, c := range cases {
		s := New(c.first)
		wantLast(t, s, c.want-1, c.want-1)
		wantDropped(t, s, c.want-1, 0)
		wantMarks(t, s)
		noDrop(t, s, 1)
		cut(t, s, 0)
		s.Crash(5)
		wantLast(t, s, c.want-1, c.want-1)
		take(t, s, write(c.want-1), c.want-1)
		take(t, s, write(c.want+1), c.want-1)
		take(t, s, write(c.want), c.want)
		if c.want < top {
			takeAll(t, s, records(c.want+1, "3"))
		}
	}
}

// A zero Stage is that of New(1).
func TestZero(t *testing.T) {
	for _, s := range []*Stage{{}, new(Stage)} {
		wantLast(t, s, 0, 0)
		wantDropped(t, s, 0, 0)
		wantMarks(t, s)
		noDrop(t, s, 0)
		s.Crash(1)
		s.Flush()
		cut(t, s, 0)
		take(t, s, api.Record{}, 0)
		take(t, s, write(0), 0)
		takeAll(t, s, records(1, "a1"))
		flush(t, s)
		drop(t, s, 1, 2)
		wantPresent(t, s, nil)
	}
}

// P12.1: only the next number is taken, whatever is there already.
func TestTake(t *testing.T) {
	for _, first := range []int{1, 2, 5, 300, top - 5} {
		s := New(first)
		for n := first; n < first+5; n++ {
			for _, other := range []int{n - 1, n - 2, n + 1, n + 2, n + 5, first - 1, first + 7, 0, 1, -1, -n, top, math.MaxInt, math.MinInt} {
				if other != n {
					take(t, s, write(other), n-1)
					take(t, s, mark(other, 1), n-1)
				}
			}
			if n%2 == 0 {
				take(t, s, write(n), n)
			} else {
				take(t, s, mark(n, n), n)
			}
			take(t, s, write(n), n)
			take(t, s, mark(n, 9), n)
		}
	}
}

// P12.1: a record that isn't valid isn't taken, even if its number is the next one.
func TestTakeInvalid(t *testing.T) {
	for _, before := range []string{"", "a", "1", "aa2", "a|b", "|1"} {
		s := filled(t, before)
		last, _ := s.Last()
		n := last + 1
		for _, r := range []api.Record{
			{}, {Seq: n}, {Seq: n, Number: 1}, {Seq: n, Kind: 3}, {Seq: n, Kind: -1}, {Seq: n, Kind: 3, Number: 1},
			{Seq: n, Kind: math.MinInt}, {Seq: n, Kind: math.MaxInt, Number: 1},
			{Seq: n, Kind: api.Write, Block: -1}, {Seq: n, Kind: api.Write, Block: api.Blocks}, {Seq: n, Kind: api.Write, Block: math.MaxInt},
			{Seq: n, Kind: api.Write, Data: strings.Repeat("x", api.BlockLen+1)}, {Seq: n, Kind: api.Write, Data: strings.Repeat("x", 100000)},
			{Seq: n, Kind: api.Write, Number: 1}, {Seq: n, Kind: api.Write, Number: -1},
			mark(n, 0), mark(n, -1), mark(n, math.MinInt), mark(n, top+1), mark(n, math.MaxInt),
			{Seq: n, Kind: api.Mark, Number: 1, Block: 1}, {Seq: n, Kind: api.Mark, Number: 1, Data: "a"},
		} {
			take(t, s, r, last)
		}
		for _, r := range []api.Record{
			{Seq: n, Kind: api.Write},
			{Seq: n + 1, Kind: api.Write, Block: api.Blocks - 1, Data: strings.Repeat("\xff", api.BlockLen)},
			mark(n+2, 1), mark(n+3, top),
		} {
			take(t, s, r, r.Seq)
		}
	}
}

// P12.1: no record is taken when the next number is above the greatest one.
func TestTakeBeyond(t *testing.T) {
	s := New(top - 1)
	takeAll(t, s, []api.Record{mark(top-1, 1), mark(top, top)})
	for range 3 {
		for _, n := range []int{top + 1, top, top + 2, 0, 1, math.MaxInt, math.MinInt} {
			take(t, s, write(n), top)
			take(t, s, mark(n, 1), top)
		}
	}
	flush(t, s)
	wantMarks(t, s, 1, top)
	wantUpTo(t, s, top, []api.Record{mark(top-1, 1), mark(top, top)})
	drop(t, s, 1, top-1)
	take(t, s, write(top+1), top)
	drop(t, s, top, top)
	for _, n := range []int{top + 1, top, top - 1, 1} {
		take(t, s, write(n), top)
	}
	cut(t, s, 0)
	take(t, s, write(top), top)
	wantLast(t, s, top, top)
}

// P12.1: a record isn't durable until the next Flush, which makes all of them durable.
func TestFlush(t *testing.T) {
	s := New(4)
	flush(t, s)
	flush(t, s)
	wantLast(t, s, 3, 3)
	takeAll(t, s, records(4, "1a"))
	wantLast(t, s, 5, 3)
	wantMarks(t, s)
	flush(t, s)
	wantLast(t, s, 5, 5)
	wantMarks(t, s, 1)
	flush(t, s)
	take(t, s, write(7), 5)
	takeAll(t, s, records(6, "2"))
	wantLast(t, s, 6, 5)
	wantMarks(t, s, 1)
	flush(t, s)
	flush(t, s)
	wantMarks(t, s, 1, 2)
	s.Crash(0)
	wantLast(t, s, 6, 6)
	wantPresent(t, s, records(4, "1a2"))
}

// P12.2: the durable records are kept, and the first keep of the others, which are durable
// then.
func TestCrash(t *testing.T) {
	for durable := range 5 {
		for loose := range 5 {
			all := records(1, "a1b2c3d4"[:durable+loose])
			for _, keep := range append([]int{0, 1, 2, 3, 4, 5, 6, 7, loose - 1, loose, loose + 1}, far...) {
				s := New(1)
				takeAll(t, s, all[:durable])
				flush(t, s)
				takeAll(t, s, all[durable:])
				s.Crash(keep)
				left := durable + min(max(keep, 0), loose)
				wantLast(t, s, left, left)
				wantDropped(t, s, 0, 0)
				s.Crash(0)
				wantLast(t, s, left, left)
				wantMarks(t, s, []int{1, 2, 3, 4}[:left/2]...)
				if left < len(all) {
					// What was lost can come again, as something else.
					take(t, s, mark(left+1, 99), left+1)
					s.Crash(-1)
					wantLast(t, s, left, left)
				}
				wantPresent(t, s, all[:left])
			}
		}
	}
}

// P12.2: a crash behind a Drop and a Cut.
func TestCrashLater(t *testing.T) {
	s := filled(t, "a1b|2c3")
	drop(t, s, 1, 2)
	s.Crash(2)
	wantLast(t, s, 5, 5)
	wantDropped(t, s, 2, 1)
	wantMarks(t, s, 2)
	wantUpTo(t, s, 2, records(1, "a1b2")[2:])
	takeAll(t, s, records(6, "4d"))
	cut(t, s, 5)
	s.Crash(9)
	wantLast(t, s, 2, 2)
	takeAll(t, s, records(3, "5e"))
	s.Crash(1)
	wantLast(t, s, 3, 3)
	wantMarks(t, s, 5)
}

// P12.2: the numbers of the durable markers, in the order of the records.
func TestMarks(t *testing.T) {
	cases := []struct {
		s    string
		want []int
	}{
		{"", nil}, {"a", nil}, {"abc", nil}, {"|1", nil}, {"a|1b2", nil},
		{"1", []int{1}}, {"a1", []int{1}}, {"1a", []int{1}}, {"ab7cd", []int{7}}, {"7|8", []int{7}}, {"a7|7", []int{7}},
		{"12", []int{1, 2}}, {"21", []int{2, 1}}, {"a1b2c3d|4e", []int{1, 2, 3}}, {"9183", []int{9, 1, 8, 3}},
		{"11", []int{1, 1}}, {"1a1", []int{1, 1}}, {"1a2b1c", []int{1, 2, 1}}, {"444a|4", []int{4, 4, 4}},
	}
	for _, c := range cases {
		wantMarks(t, filled(t, c.s), c.want...)
	}
	s := New(1)
	takeAll(t, s, []api.Record{mark(1, top), mark(2, 1), mark(3, top-1), mark(4, top)})
	flush(t, s)
	wantMarks(t, s, top, 1, top-1, top)
}

// P12.2: the records up to the first durable marker with a number.
func TestUpTo(t *testing.T) {
	cases := []struct {
		s    string
		mark int
		n    int // how many records; 0 if there is no such marker
	}{
		{"", 1, 0}, {"a", 1, 0}, {"ab", 0, 0}, {"|1", 1, 0}, {"a|1", 1, 0}, {"2|1", 1, 0}, {"2a|1", 3, 0},
		{"1", 1, 1}, {"1", 2, 0}, {"a1", 1, 2}, {"1a", 1, 1}, {"ab7cd", 7, 3}, {"ab7cd", 8, 0}, {"ab7cd", 6, 0},
		{"12", 1, 1}, {"12", 2, 2}, {"21", 1, 2}, {"21", 2, 1}, {"a1b2c3d|4e", 3, 6}, {"a1b2c3d|4e", 2, 4}, {"a1b2c3d|4e", 4, 0},
		{"11", 1, 1}, {"a1b1", 1, 2}, {"2a1b1", 1, 3}, {"1|1", 1, 1}, {"2|1a1", 1, 0}, {"2a2a2|2", 2, 1},
	}
	for _, c := range cases {
		s := filled(t, c.s)
		if c.n == 0 {
			noDrop(t, s, c.mark)
			continue
		}
		all := records(1, strings.Replace(c.s, "|", "", 1))
		wantUpTo(t, s, c.mark, all[:c.n])
		wantUpTo(t, s, c.mark, all[:c.n])
		drop(t, s, c.mark, c.n)
		wantPresent(t, s, all[c.n:])
	}
}

// P12.2, P12.3: numbers that no marker has: 0, which writes have, and others.
func TestNoMark(t *testing.T) {
	for _, s := range []*Stage{filled(t, ""), filled(t, "ab"), filled(t, "a7b8"), filled(t, "7|8a"), filled(t, "ab|c78")} {
		for _, n := range append([]int{0, 1, 2, 3, 4, 6, 9}, far...) {
			noDrop(t, s, n)
		}
	}
}

// P12.2: a marker that isn't durable yet is found once it is, by a Flush or by a Crash.
func TestUpToDurable(t *testing.T) {
	s := filled(t, "a|1")
	noDrop(t, s, 1)
	flush(t, s)
	wantUpTo(t, s, 1, records(1, "a1"))
	s = filled(t, "a|b1c")
	s.Crash(1)
	noDrop(t, s, 1)
	s = filled(t, "a|b1c")
	s.Crash(2)
	wantUpTo(t, s, 1, records(1, "ab1"))
	drop(t, s, 1, 3)
	wantPresent(t, s, nil)
}

// P12.3: Drop of the first marker, of the last one, of one between, and of each in turn.
func TestDrop(t *testing.T) {
	all := records(1, "a1bc2d3e4f")
	ends := []int{0, 2, 5, 7, 9}
	for mark := 1; mark <= 4; mark++ {
		s := filled(t, "a1bc2d3e|4f")
		if mark == 4 {
			noDrop(t, s, 4)
			s.Flush()
		}
		drop(t, s, mark, ends[mark])
		for n := 1; n <= mark; n++ {
			noDrop(t, s, n)
		}
		for next := mark + 1; next <= 3; next++ {
			wantUpTo(t, s, next, all[ends[mark]:ends[next]])
		}
		s.Flush()
		wantPresent(t, s, all[ends[mark]:])
	}
	s := filled(t, "a1bc2d3e4f")
	for mark := 1; mark <= 4; mark++ {
		wantUpTo(t, s, mark, all[ends[mark-1]:ends[mark]])
		drop(t, s, mark, ends[mark])
		noDrop(t, s, mark)
	}
	wantMarks(t, s)
	cut(t, s, 1)
}

// P12.3: a marker that is there twice can be dropped twice, and no further.
func TestDropTwice(t *testing.T) {
	s := filled(t, "a1b1c|1")
	drop(t, s, 1, 2)
	wantUpTo(t, s, 1, records(1, "a1b1")[2:])
	drop(t, s, 1, 4)
	noDrop(t, s, 1)
	flush(t, s)
	drop(t, s, 1, 6)
	noDrop(t, s, 1)
	wantLast(t, s, 6, 6)
}

// P12.3: markers may be dropped in any order, and Dropped returns that of the last Drop that
// succeeded.
func TestDropped(t *testing.T) {
	s := New(10)
	takeAll(t, s, records(10, "5a3b"))
	wantDropped(t, s, 9, 0)
	flush(t, s)
	noDrop(t, s, 4)
	wantDropped(t, s, 9, 0)
	drop(t, s, 5, 10)
	noDrop(t, s, 5)
	wantDropped(t, s, 10, 5)
	take(t, s, mark(14, 7), 14)
	noDrop(t, s, 7)
	drop(t, s, 3, 12)
	s.Crash(0)
	wantDropped(t, s, 12, 3)
	cut(t, s, 1)
	noDrop(t, s, 3)
	take(t, s, mark(13, top), 13)
	wantDropped(t, s, 12, 3)
	flush(t, s)
	drop(t, s, top, 13)
}

// The texts of the errors, written out.
func TestTexts(t *testing.T) {
	cases := []struct {
		err  error
		want string
	}{
		{filled(t, "").Drop(1), "stage 1: none"},
		{filled(t, "a7|8").Drop(8), "stage 8: none"},
		{filled(t, "a").Drop(0), "stage 0: none"},
		{filled(t, "a1").Drop(-1), "stage -1: none"},
		{filled(t, "a1").Drop(math.MinInt), "stage -9223372036854775808: none"},
		{filled(t, "a1").Drop(math.MaxInt), "stage 9223372036854775807: none"},
		{(*Stage)(nil).Drop(7), "stage 7: none"},
		{(*Stage)(nil).Drop(0), "stage 0: none"},
	}
	for _, c := range cases {
		if c.err == nil || c.err.Error() != c.want {
			t.Errorf("got %v, want %q", c.err, c.want)
		}
	}
}

// P12.3: all records are removed, durable or not, and can be received again.
func TestCut(t *testing.T) {
	for _, c := range []struct {
		s string
		n int
	}{{"", 0}, {"a", 1}, {"|a", 1}, {"a1b", 3}, {"|a1b", 3}, {"a1|b", 3}, {"1|2", 2}, {"abcd1e2|3fgh4", 12}} {
		s := filled(t, c.s)
		cut(t, s, c.n)
		cut(t, s, 0)
		for _, n := range []int{1, 2, 3, 4} {
			noDrop(t, s, n)
		}
		take(t, s, write(2), 0)
		all := records(1, strings.Replace(c.s, "|", "", 1))
		takeAll(t, s, all)
		// They are new ones, so none of them is durable.
		wantLast(t, s, c.n, 0)
		wantMarks(t, s)
		wantPresent(t, s, all)
	}
}

// P12.3: behind a Drop, a Cut leaves the first number as it is.
func TestCutDropped(t *testing.T) {
	s := New(3)
	takeAll(t, s, records(3, "a1b2c"))
	flush(t, s)
	takeAll(t, s, records(8, "d"))
	drop(t, s, 1, 4)
	cut(t, s, 4)
	wantDropped(t, s, 4, 1)
	for _, n := range []int{4, 3, 1, 6, 9} {
		take(t, s, write(n), 4)
	}
	takeAll(t, s, records(5, "b2c"))
	flush(t, s)
	wantUpTo(t, s, 2, records(5, "b2"))
	drop(t, s, 2, 6)
	wantPresent(t, s, records(7, "c"))
}

// P12.3: a record that was dropped isn't taken again.
func TestDroppedAgain(t *testing.T) {
	all := records(1, "a1b2c")
	for mark := 1; mark <= 2; mark++ {
		s := filled(t, "a1b2c")
		drop(t, s, mark, 2*mark)
		for _, r := range all[:2*mark] {
			take(t, s, r, 5)
		}
		cut(t, s, 5-2*mark)
		for _, r := range all[:2*mark] {
			take(t, s, r, 2*mark)
		}
		takeAll(t, s, all[2*mark:])
		wantPresent(t, s, all[2*mark:])
	}
}

// P12.4: for a nil Stage, a Drop is refused, and nothing else happens.
func TestNil(t *testing.T) {
	var s *Stage
	for range 2 {
		for _, n := range append([]int{0, 1, 2, top}, far...) {
			take(t, s, write(n), 0)
			take(t, s, mark(n, 1), 0)
			s.Crash(n)
			noDrop(t, s, n)
		}
		take(t, s, api.Record{}, 0)
		s.Flush()
		wantMarks(t, s)
		wantLast(t, s, 0, 0)
		wantDropped(t, s, 0, 0)
		cut(t, s, 0)
	}
}
