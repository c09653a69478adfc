package marks

import (
	"errors"
	"math"
	"slices"
	"testing"

	"isobar/api"
	"isobar/fault"
)

// absent are numbers that aren't volumes. Some of them would be volumes if only their lowest
// bits counted.
var absent = []int{
	-1, -2, -3, -4, -5, -64, math.MinInt32, -1 << 32, math.MinInt + 1, math.MinInt,
	4, 5, 6, 7, 8, 63, 64, 255, 256, 1 << 16, math.MaxInt32, 1 << 32, 1<<32 + 1, math.MaxInt - 1, math.MaxInt,
}

// low are numbers that aren't markers.
var low = []int{0, -1, -2, -7, math.MinInt32, -1<<32 + 1, -1 << 60, math.MinInt + 1, math.MinInt}

// high are markers that are greater than what a record may have, and others that are great.
var high = []int{math.MaxInt32, 1 << 32, 1<<32 + 1, 1<<60 - 1, 1 << 60, 1<<60 + 1, math.MaxInt - 1, math.MaxInt}

// put puts markers of a volume.
func put(t *testing.T, x *Table, volume int, marks ...int) {
	t.Helper()
	for _, m := range marks {
		if err := x.Put(volume, m); err != nil {
			t.Fatalf("Put(%d, %d) = %v", volume, m, err)
		}
	}
}

// filled returns a table in which volume 0 has the first markers, volume 1 the next ones, and
// so on.
func filled(t *testing.T, marks ...[]int) *Table {
	t.Helper()
	x := &Table{}
	for v, l := range marks {
		put(t, x, v, l...)
	}
	return x
}

// noPut checks that a Put is refused with this error, and changes nothing.
func noPut(t *testing.T, x *Table, volume, mark int, e api.Errno) {
	t.Helper()
	before := all(x)
	err := x.Put(volume, mark)
	f, ok := err.(*fault.Fault)
	if !ok || f == nil || f.Op != "marks" || f.At != volume || f.Err != error(e) {
		t.Fatalf("Put(%d, %d) = %#v, want the fault marks, %d, around %v", volume, mark, err, volume, e)
	}
	if fault.Code(err) != e || !errors.Is(err, e) {
		t.Fatalf("%v doesn't have the code %v", err, e)
	}
	if after := all(x); !slices.EqualFunc(before, after, slices.Equal) {
		t.Fatalf("Put(%d, %d) changed %v into %v", volume, mark, before, after)
	}
}

// all returns the markers of each volume.
func all(x *Table) [][]int {
	var out [][]int
	for v := range api.Volumes {
		out = append(out, x.Of(v))
	}
	return out
}

// wantAll checks the markers of each volume; those that aren't passed have none.
func wantAll(t *testing.T, x *Table, want ...[]int) {
	t.Helper()
	for v := range api.Volumes {
		var l []int
		if v < len(want) {
			l = want[v]
		}
		wantOf(t, x, v, l...)
	}
}

// wantOf checks the markers of a volume, also by asking for each of them.
func wantOf(t *testing.T, x *Table, volume int, want ...int) {
	t.Helper()
	if got := x.Of(volume); !slices.Equal(got, want) {
		t.Fatalf("Of(%d) = %v, want %v", volume, got, want)
	}
	for _, m := range want {
		wantLacks(t, x, m, []int{volume})
	}
	newest := 0
	if len(want) > 0 {
		newest = want[len(want)-1]
	}
	wantNewest(t, x, newest, volume)
}

// wantNewest checks the newest marker of some volumes.
func wantNewest(t *testing.T, x *Table, want int, volumes ...int) {
	t.Helper()
	if got := x.Newest(volumes...); got != want {
		t.Fatalf("Newest(%v) = %d, want %d", volumes, got, want)
	}
}

// wantLacks checks which of some volumes lack a marker.
func wantLacks(t *testing.T, x *Table, mark int, volumes []int, want ...int) {
	t.Helper()
	if got := x.Lacks(mark, volumes...); !slices.Equal(got, want) {
		t.Fatalf("Lacks(%d, %v) = %v, want %v", mark, volumes, got, want)
	}
}

// orders calls f with some volumes in all orders. The slice is changed afterwards.
func orders(volumes []int, f func([]int)) {
	var from func(int)
	from = func(n int) {
		if n == len(volumes) {
			f(volumes)
			return
		}
		for i := n; i < len(volumes); i++ {
			volumes[n], volumes[i] = volumes[i], volumes[n]
			from(n + 1)
			volumes[n], volumes[i] = volumes[i], volumes[n]
		}
	}
	from(0)
}

// The chapter's example.
func TestExample(t *testing.T) {
	x := filled(t, []int{1, 2}, []int{2, 3})
	wantNewest(t, x, 2, 0, 1)
	wantNewest(t, x, 0, 0, 1, 2)
}

// P13.1: a zero Table has no markers, whichever volumes are asked for.
func TestZero(t *testing.T) {
	for _, x := range []*Table{{}, new(Table)} {
		wantAll(t, x)
		for _, v := range absent {
			wantOf(t, x, v)
			x.Forget(v, math.MaxInt)
		}
		wantNewest(t, x, 0)
		wantNewest(t, x, 0, 0, 1, 2, 3)
		wantLacks(t, x, 1, []int{3, 0, 2, 1}, 3, 0, 2, 1)
		wantLacks(t, x, 1, nil)
		x.Forget(0, 5)
		wantAll(t, x)
		noPut(t, x, 4, 1, api.ErrRange)
		noPut(t, x, 0, 0, api.ErrArg)
		put(t, x, 3, 7)
		wantAll(t, x, nil, nil, nil, []int{7})
	}
}

// P13.1: the volumes from 0 to 3 have markers of their own.
func TestPut(t *testing.T) {
	x := &Table{}
	put(t, x, 3, 9)
	wantAll(t, x, nil, nil, nil, []int{9})
	put(t, x, 0, 4)
	wantAll(t, x, []int{4}, nil, nil, []int{9})
	put(t, x, 1, 4, 1)
	put(t, x, 2, 9)
	wantAll(t, x, []int{4}, []int{1, 4}, []int{9}, []int{9})
	if api.Volumes != 4 {
		t.Errorf("there are %d volumes", api.Volumes)
	}
}

// P13.1: markers from 1 on, up to the greatest number.
func TestPutMarks(t *testing.T) {
	for v := range 4 {
		x := &Table{}
		put(t, x, v, 1)
		wantOf(t, x, v, 1)
		put(t, x, v, high...)
		put(t, x, v, 2)
		wantOf(t, x, v, append([]int{1, 2}, high...)...)
		wantNewest(t, x, math.MaxInt, v)
		wantLacks(t, x, math.MaxInt-2, []int{v}, v)
	}
}

// P13.1: nothing changes if the volume has the marker.
func TestPutAgain(t *testing.T) {
	x := filled(t, []int{5, 2, 5, 5, 2, 9, 5})
	wantAll(t, x, []int{2, 5, 9})
	for range 3 {
		for _, m := range []int{9, 2, 5} {
			put(t, x, 0, m)
			wantAll(t, x, []int{2, 5, 9})
		}
	}
	put(t, x, 1, 5, 5)
	wantAll(t, x, []int{2, 5, 9}, []int{5})
	x.Forget(0, 5)
	wantAll(t, x, []int{9}, []int{5})
}

// P13.1: there is no such volume; the marker doesn't matter then.
func TestPutAbsent(t *testing.T) {
	for _, x := range []*Table{{}, filled(t, []int{1, 2}, []int{2}, []int{3, 1}, []int{2, 4})} {
		before := all(x)
		for _, v := range absent {
			for _, m := range slices.Concat([]int{1, 2, 3, 4, 100}, high, low) {
				noPut(t, x, v, m, api.ErrRange)
			}
			wantOf(t, x, v)
		}
		wantAll(t, x, before...)
	}
}

// P13.1: a marker below 1 of a volume that exists.
func TestPutLow(t *testing.T) {
	for _, x := range []*Table{{}, filled(t, []int{1, 2}, []int{2}, []int{3, 1}, []int{2, 4})} {
		before := all(x)
		for v := range 4 {
			for _, m := range low {
				noPut(t, x, v, m, api.ErrArg)
				wantLacks(t, x, m, []int{v}, v)
			}
			wantAll(t, x, before...)
		}
	}
}

// P13.1: the texts of the faults.
func TestFaultText(t *testing.T) {
	cases := []struct {
		volume, mark int
		want         string
	}{
		{4, 1, "marks 4: range"},
		{-1, 1, "marks -1: range"},
		{4, 0, "marks 4: range"},
		{-1, -1, "marks -1: range"},
		{0, 0, "marks 0: arg"},
		{3, 0, "marks 3: arg"},
		{3, -1, "marks 3: arg"},
		{1, math.MinInt, "marks 1: arg"},
		{math.MaxInt, 1, "marks 9223372036854775807: range"},
		{math.MinInt, math.MinInt, "marks -9223372036854775808: range"},
	}
	for _, c := range cases {
		x := filled(t, []int{1})
		if err := x.Put(c.volume, c.mark); err == nil || err.Error() != c.want {
			t.Errorf("Put(%d, %d) = %v, want %q", c.volume, c.mark, err, c.want)
		}
	}
}

// P13.1: the markers up to a number are removed, those above it stay.
func TestForget(t *testing.T) {
	cases := []struct {
		upto int
		want []int
	}{
		{math.MinInt, []int{2, 3, 5, 9}},
		{math.MinInt + 1, []int{2, 3, 5, 9}},
		{math.MinInt32, []int{2, 3, 5, 9}},
		{-5, []int{2, 3, 5, 9}},
		{-1, []int{2, 3, 5, 9}},
		{0, []int{2, 3, 5, 9}},
		{1, []int{2, 3, 5, 9}},
		{2, []int{3, 5, 9}},
		{3, []int{5, 9}},
		{4, []int{5, 9}},
		{5, []int{9}},
		{6, []int{9}},
		{8, []int{9}},
		{9, nil},
		{10, nil},
		{math.MaxInt32, nil},
		{1<<32 + 2, nil},
		{math.MaxInt - 1, nil},
		{math.MaxInt, nil},
	}
	for v := range 4 {
		for _, c := range cases {
			same := []int{2, 3, 5, 9}
			x := filled(t, same, same, same, same)
			want := [][]int{same, same, same, same}
			want[v] = c.want
			for range 2 {
				x.Forget(v, c.upto)
				wantAll(t, x, want...)
			}
		}
	}
}

// P13.1: great markers are forgotten as small ones are.
func TestForgetHigh(t *testing.T) {
	for i, m := range high {
		x := filled(t, nil, high)
		x.Forget(1, m-1)
		wantAll(t, x, nil, high[i:])
		x.Forget(1, m)
		wantAll(t, x, nil, high[i+1:])
	}
}

// P13.1: nothing is removed from volumes without markers, nor by a volume that doesn't exist.
func TestForgetNothing(t *testing.T) {
	uptos := slices.Concat(low, []int{1, 2, 3, 4}, high)
	x := filled(t, []int{1, 3}, nil, []int{2})
	for _, upto := range uptos {
		for _, v := range append([]int{1, 3}, absent...) {
			x.Forget(v, upto)
			wantAll(t, x, []int{1, 3}, nil, []int{2})
		}
	}
}

// P13.1: what was forgotten can be put again.
func TestForgetAndPut(t *testing.T) {
	x := filled(t, []int{1, 2, 3}, []int{2})
	x.Forget(0, 2)
	put(t, x, 0, 2)
	wantAll(t, x, []int{2, 3}, []int{2})
	wantNewest(t, x, 2, 0, 1)
	x.Forget(0, 3)
	wantAll(t, x, nil, []int{2})
	wantNewest(t, x, 0, 0, 1)
	put(t, x, 0, 1)
	wantAll(t, x, []int{1}, []int{2})
	put(t, x, 0, 3, 2)
	wantAll(t, x, []int{1, 2, 3}, []int{2})
	for range 5 {
		x.Forget(1, math.MaxInt)
		wantAll(t, x, []int{1, 2, 3})
		put(t, x, 1, 2)
		wantAll(t, x, []int{1, 2, 3}, []int{2})
	}
}

// P13.1: the markers are in ascending order, however they were put.
func TestOf(t *testing.T) {
	for _, sorted := range [][]int{{4}, {1, 2}, {1, 2, 3, 4, 5}, {1, 9, 10, 11, 100}, {7, 1 << 32, 1<<32 + 7, 1 << 60, math.MaxInt}} {
		orders(slices.Clone(sorted), func(l []int) {
			x := filled(t, nil, nil, l)
			wantAll(t, x, nil, nil, sorted)
			put(t, x, 2, l[0], l[len(l)-1])
			wantAll(t, x, nil, nil, sorted)
		})
	}
}

// P13.1: there are no volumes but those from 0 to 3.
func TestOfAbsent(t *testing.T) {
	x := filled(t, []int{1}, []int{2}, []int{3}, []int{4})
	for _, v := range absent {
		wantOf(t, x, v)
	}
	wantAll(t, x, []int{1}, []int{2}, []int{3}, []int{4})
}

// R3: what Of and Lacks return can be changed and appended to, and stays as it is when the
// table changes.
func TestMemory(t *testing.T) {
	x := filled(t, []int{3, 1, 2}, []int{2})
	l := x.Of(0)
	again := x.Of(0)
	for i := range l {
		l[i] = 90 + i
	}
	_ = append(l[:1], 97, 96, 95)
	wantAll(t, x, []int{1, 2, 3}, []int{2})
	put(t, x, 0, 4)
	x.Forget(0, 2)
	if !slices.Equal(again, []int{1, 2, 3}) {
		t.Fatalf("what Of returned is %v now", again)
	}

	passed := []int{2, 0, 3, 2}
	lacking := x.Lacks(1, passed...)
	lacking[0], lacking[3] = 1, 1
	if !slices.Equal(passed, []int{2, 0, 3, 2}) {
		t.Fatalf("the arguments became %v", passed)
	}
	lacking = x.Lacks(1, passed...)
	passed[1] = 7
	put(t, x, 2, 1)
	if !slices.Equal(lacking, []int{2, 0, 3, 2}) {
		t.Fatalf("what Lacks returned is %v now", lacking)
	}
}

// R3: the volumes that are passed stay as they are, and what is beyond them isn't used.
func TestArgumentsStay(t *testing.T) {
	x := filled(t, []int{1, 2}, []int{1, 2, 3}, []int{1}, []int{3})
	memory := []int{1, 0, 1, 0, 3, 2, 9, -1, 3}
	for n := range len(memory) + 1 {
		passed := memory[:n]
		x.Newest(passed...)
		x.Lacks(2, passed...)
		_ = append(x.Lacks(5, passed...), 77)
		if !slices.Equal(memory, []int{1, 0, 1, 0, 3, 2, 9, -1, 3}) {
			t.Fatalf("the arguments became %v", memory)
		}
	}
	wantNewest(t, x, 2, memory[:4]...)
	wantLacks(t, x, 3, memory[:4], 0, 0)
	wantNewest(t, x, 3, memory[:1]...)
}

// P13.2: of one volume, its greatest marker.
func TestNewestOne(t *testing.T) {
	for _, m := range append([]int{1, 2, 3, 10}, high...) {
		for v := range 4 {
			x := &Table{}
			put(t, x, v, m)
			wantNewest(t, x, m, v)
			put(t, x, v, 1)
			wantNewest(t, x, m, v)
			wantNewest(t, x, 0, (v+1)%4)
		}
	}
}

// P13.2: the greatest marker that all have isn't the greatest of any of them.
func TestNewestSeveral(t *testing.T) {
	cases := []struct {
		marks [][]int
		want  int
	}{
		{[][]int{{1}, {1}, {1}, {1}}, 1},
		{[][]int{{1}, {1}, {1}, {2}}, 0},
		{[][]int{{1, 2}, {2, 3}, {2}, {2, 1}}, 2},
		{[][]int{{1, 2, 3}, {1, 2, 4}, {1, 3, 4}, {1, 2, 3, 4}}, 1},
		{[][]int{{1, 2, 3}, {2, 3}, {2, 3, 9}, {2, 3, 10}}, 3},
		{[][]int{{2, 3, 8}, {2, 3, 9}, {2, 9}, {2, 3, 8}}, 2},
		{[][]int{{1, 2}, {3, 4}, {1, 2, 3, 4}, {1, 2, 3, 4}}, 0},
		{[][]int{{1, 2}, nil, {1, 2}, {1, 2}}, 0},
		{[][]int{nil, {1}, {1}, {1}}, 0},
		{[][]int{{1}, {1}, {1}, nil}, 0},
		{[][]int{high, high, high, high}, math.MaxInt},
		{[][]int{{7, 1<<32 + 1}, {7, 1}, {7, 1 << 32}, {7}}, 7},
	}
	for _, c := range cases {
		x := filled(t, c.marks...)
		orders([]int{0, 1, 2, 3}, func(l []int) {
			wantNewest(t, x, c.want, l...)
		})
	}
}

// P13.2: 0 if no volumes are passed, or if one of them doesn't exist.
func TestNewestNone(t *testing.T) {
	same := []int{1, 2}
	x := filled(t, same, same, same, same)
	wantNewest(t, x, 0)
	wantNewest(t, x, 0, []int{}...)
	wantNewest(t, x, 0, nil...)
	wantNewest(t, x, 2, 0, 1, 2, 3)
	for _, v := range absent {
		wantNewest(t, x, 0, v)
		wantNewest(t, x, 0, v, v)
		orders([]int{v, 0, 1, 3}, func(l []int) {
			wantNewest(t, x, 0, l...)
		})
		for _, w := range absent {
			wantNewest(t, x, 0, v, w)
			wantNewest(t, x, 0, 0, v, 3, w, 1)
		}
	}
}

// P13.2: a volume that is passed twice is asked for no more than once.
func TestNewestTwice(t *testing.T) {
	x := filled(t, []int{1, 2, 5}, []int{1, 2, 3}, nil, []int{1})
	wantNewest(t, x, 5, 0, 0)
	wantNewest(t, x, 3, 1, 1, 1)
	wantNewest(t, x, 0, 2, 2)
	orders([]int{0, 1, 0, 1}, func(l []int) {
		wantNewest(t, x, 2, l...)
	})
	orders([]int{0, 3, 1, 3, 3}, func(l []int) {
		wantNewest(t, x, 1, l...)
	})
	orders([]int{0, 2, 1, 0}, func(l []int) {
		wantNewest(t, x, 0, l...)
	})
	wantNewest(t, x, 2, slices.Repeat([]int{0, 1}, 1000)...)
}

// P13.2: those that don't have a marker, in the order in which they were passed.
func TestLacks(t *testing.T) {
	x := filled(t, []int{1, 2}, []int{2, 3}, nil, []int{3})
	wantLacks(t, x, 1, []int{0, 1, 2, 3}, 1, 2, 3)
	wantLacks(t, x, 2, []int{0, 1, 2, 3}, 2, 3)
	wantLacks(t, x, 3, []int{0, 1, 2, 3}, 0, 2)
	wantLacks(t, x, 4, []int{0, 1, 2, 3}, 0, 1, 2, 3)
	wantLacks(t, x, math.MaxInt, []int{0, 3}, 0, 3)
	wantLacks(t, x, 2, []int{1, 0})
	wantLacks(t, x, 2, []int{3, 1, 2, 0}, 3, 2)
	for _, m := range append([]int{1, 2, 3}, low...) {
		wantLacks(t, x, m, nil)
		wantLacks(t, x, m, []int{})
	}
	has := [][]int{nil, {0}, {0, 1}, {1, 3}, nil}
	for m := range has {
		orders([]int{0, 1, 2, 3}, func(l []int) {
			wantLacks(t, x, m, l, slices.DeleteFunc(slices.Clone(l), func(v int) bool {
				return slices.Contains(has[m], v)
			})...)
		})
	}
}

// P13.2: a volume that is passed twice is returned twice.
func TestLacksTwice(t *testing.T) {
	x := filled(t, []int{1, 2}, []int{2, 3}, nil, []int{3})
	wantLacks(t, x, 3, []int{0, 0}, 0, 0)
	wantLacks(t, x, 3, []int{2, 0, 1, 2, 3, 0, 2}, 2, 0, 2, 0, 2)
	wantLacks(t, x, 3, []int{1, 3, 1, 3})
	wantLacks(t, x, 2, []int{3, 1, 1, 3}, 3, 3)
	many := slices.Repeat([]int{3, 0, 1, 9}, 1000)
	wantLacks(t, x, 2, many, slices.Repeat([]int{3, 9}, 1000)...)
}

// P13.2: a volume that doesn't exist has no markers.
func TestLacksAbsent(t *testing.T) {
	x := filled(t, []int{1, 2}, []int{1, 2}, []int{1, 2}, []int{1, 2})
	for _, m := range []int{1, 2} {
		wantLacks(t, x, m, absent, absent...)
		wantLacks(t, x, m, slices.Concat([]int{0, 3}, absent, []int{1, 2}, absent), slices.Concat(absent, absent)...)
		for _, v := range absent {
			wantLacks(t, x, m, []int{v}, v)
			wantLacks(t, x, m, []int{3, v, 0, v, 1}, v, v)
		}
	}
}

// P13.2: no volume has a marker of 0 or less.
func TestLacksLow(t *testing.T) {
	x := filled(t, []int{1, 2}, append([]int{1}, high...), nil, []int{1})
	for _, m := range low {
		wantLacks(t, x, m, []int{0, 1, 2, 3}, 0, 1, 2, 3)
		wantLacks(t, x, m, []int{3, 1, 3, 9, 0}, 3, 1, 3, 9, 0)
		wantLacks(t, x, m, absent, absent...)
	}
}

// P13.3: a nil Table, in every call.
func TestNil(t *testing.T) {
	var x *Table
	for _, v := range append([]int{0, 1, 2, 3}, absent...) {
		for _, m := range slices.Concat([]int{1, 2}, low, high) {
			noPut(t, x, v, m, api.ErrRange)
			x.Forget(v, m)
			wantLacks(t, x, m, []int{v}, v)
			wantLacks(t, x, m, []int{v, 0, v}, v, 0, v)
			wantLacks(t, x, m, nil)
		}
		if l := x.Of(v); len(l) != 0 {
			t.Fatalf("Of(%d) = %v", v, l)
		}
		wantNewest(t, x, 0, v)
		wantNewest(t, x, 0, v, 0)
	}
	wantNewest(t, x, 0)
	wantNewest(t, x, 0, 0, 1, 2, 3)
	passed := []int{3, 9, 1, 3}
	lacking := x.Lacks(1, passed...)
	lacking[0] = 8
	if !slices.Equal(passed, []int{3, 9, 1, 3}) {
		t.Errorf("the arguments became %v", passed)
	}
}
