package member

import (
	"errors"
	"math"
	"slices"
	"testing"

	"isobar/api"
	"isobar/fault"
)

// greatest is the greatest marker that a change may have.
const greatest = 1<<60 - 1

// absent are numbers that aren't volumes. Some of them would be volumes if only their lowest
// bits counted.
var absent = []int{
	-1, -2, -3, -4, -5, -64, math.MinInt32, -1 << 32, math.MinInt + 1, math.MinInt,
	4, 5, 6, 7, 8, 63, 64, 65, 255, 256, 1 << 16, math.MaxInt32, 1 << 32, 1<<32 + 1, 1 << 60, math.MaxInt - 1, math.MaxInt,
}

// low are numbers that are below any marker.
var low = []int{0, -1, -2, -7, math.MinInt32, -1<<32 + 1, -1 << 60, math.MinInt + 1, math.MinInt}

// above are markers that are too great for a change. Some of them wouldn't be if only their
// lowest bits counted.
var above = []int{greatest + 1, greatest + 2, greatest + 8, 1<<61 + 9, 1<<62 - 1, math.MaxInt - 1, math.MaxInt}

// made returns a group of these volumes.
func made(t *testing.T, volumes ...int) *Group {
	t.Helper()
	g, err := New(volumes...)
	if err != nil || g == nil {
		t.Fatalf("New(%v) = %v, %v", volumes, g, err)
	}
	return g
}

// add adds a volume.
func add(t *testing.T, g *Group, volume, mark int) {
	t.Helper()
	if err := g.Add(volume, mark); err != nil {
		t.Fatalf("Add(%d, %d) = %v", volume, mark, err)
	}
}

// remove removes a volume.
func remove(t *testing.T, g *Group, volume, mark int) {
	t.Helper()
	if err := g.Remove(volume, mark); err != nil {
		t.Fatalf("Remove(%d, %d) = %v", volume, mark, err)
	}
}

// swap adds a volume that doesn't belong to the group, or removes one that does.
func swap(t *testing.T, g *Group, volume, mark int) {
	t.Helper()
	if slices.Contains(g.Now(), volume) {
		remove(t, g, volume, mark)
	} else {
		add(t, g, volume, mark)
	}
}

// volumeOf is the volume of the change with the number i of a group with many changes: each of
// the volumes now and then, and some of them twice in a row.
func volumeOf(i int) int {
	return i * 3 % 7 % 4
}

// filled returns a group with so many changes of all volumes, at the markers 1, 2 and so on.
func filled(t *testing.T, changes int) *Group {
	t.Helper()
	g := made(t, 0, 1)
	for i := range changes {
		swap(t, g, volumeOf(i), i+1)
	}
	return g
}

// wantFault checks that an error is the fault member, at, around e.
func wantFault(t *testing.T, err error, at int, e api.Errno) {
	t.Helper()
	f, ok := err.(*fault.Fault)
	if !ok || f == nil || f.Op != "member" || f.At != at || f.Err != error(e) {
		t.Fatalf("the error is %v, want the fault member, %d, around %v", err, at, e)
	}
	if fault.Code(err) != e || !errors.Is(err, e) {
		t.Fatalf("%v doesn't have the code %v", err, e)
	}
}

// noNew checks that there is no group of these volumes.
func noNew(t *testing.T, at int, e api.Errno, volumes ...int) {
	t.Helper()
	g, err := New(volumes...)
	wantFault(t, err, at, e)
	if g != nil {
		t.Fatalf("New(%v) returns a group beside %v", volumes, err)
	}
}

// noAdd checks that an Add is refused with this error, and changes nothing.
func noAdd(t *testing.T, g *Group, volume, mark int, e api.Errno) {
	t.Helper()
	before := told(g)
	wantFault(t, g.Add(volume, mark), volume, e)
	wantTold(t, g, before)
}

// noRemove checks that a Remove is refused with this error, and changes nothing.
func noRemove(t *testing.T, g *Group, volume, mark int, e api.Errno) {
	t.Helper()
	before := told(g)
	wantFault(t, g.Remove(volume, mark), volume, e)
	wantTold(t, g, before)
}

// noGroup checks that bytes aren't the encoding of a group.
func noGroup(t *testing.T, b []byte) {
	t.Helper()
	g, err := FromBytes(b)
	if err == nil {
		t.Fatalf("FromBytes(% x) returns a group", b)
	}
	wantFault(t, err, 0, api.ErrArg)
	if g != nil {
		t.Fatalf("FromBytes(% x) returns a group beside %v", b, err)
	}
}

// decoded returns the group of some bytes.
func decoded(t *testing.T, b []byte) *Group {
	t.Helper()
	g, err := FromBytes(b)
	if err != nil || g == nil {
		t.Fatalf("FromBytes(% x) = %v, %v", b, g, err)
	}
	return g
}

// telling is all that a group tells, but for At of the other markers.
type telling struct {
	bytes []byte
	now   []int
	last  int
	at    [][]int
}

// asked are the markers that At is asked for in a telling.
var asked = slices.Concat(low, above, []int{1, 2, 3, 4, 5, 6, 7, 8, 9, 10, 50, 99, 100, 101, 102, greatest - 1, greatest})

// told returns all that a group tells.
func told(g *Group) telling {
	x := telling{bytes: g.Bytes(), now: g.Now(), last: g.Last()}
	for _, mark := range append(slices.Clone(asked), x.last-1, x.last, x.last+1) {
		x.at = append(x.at, g.At(mark))
	}
	return x
}

// wantTold checks that a group still tells the same.
func wantTold(t *testing.T, g *Group, want telling) {
	t.Helper()
	got := told(g)
	if !slices.Equal(got.bytes, want.bytes) || !slices.Equal(got.now, want.now) || got.last != want.last ||
		!slices.EqualFunc(got.at, want.at, slices.Equal) {
		t.Fatalf("the group tells %v, want %v", got, want)
	}
}

// wantAt checks which volumes belong to a group at a marker.
func wantAt(t *testing.T, g *Group, mark int, want ...int) {
	t.Helper()
	if got := g.At(mark); !slices.Equal(got, want) {
		t.Fatalf("At(%d) = %v, want %v", mark, got, want)
	}
}

// wantNow checks the last marker of a group, and which volumes belong to it then.
func wantNow(t *testing.T, g *Group, last int, want ...int) {
	t.Helper()
	if g.Last() != last {
		t.Fatalf("Last = %d, want %d", g.Last(), last)
	}
	if got := g.Now(); !slices.Equal(got, want) {
		t.Fatalf("Now = %v, want %v", got, want)
	}
	wantAt(t, g, math.MaxInt, want...)
	wantAt(t, g, last, want...)
}

// orders calls f with some numbers in all orders. The slice is as it was afterwards.
func orders(l []int, f func([]int)) {
	var from func(int)
	from = func(n int) {
		if n == len(l) {
			f(l)
			return
		}
		for i := n; i < len(l); i++ {
			l[n], l[i] = l[i], l[n]
			from(n + 1)
			l[n], l[i] = l[i], l[n]
		}
	}
	from(0)
}

// subset returns the volumes whose bits are set in n.
func subset(n int) []int {
	var l []int
	for v := range 4 {
		if n&(1<<v) != 0 {
			l = append(l, v)
		}
	}
	return l
}

// The chapter's example.
func TestExample(t *testing.T) {
	g := made(t, 0, 1)
	add(t, g, 2, 5)
	remove(t, g, 0, 7)
	wantAt(t, g, 4, 0, 1)
	wantAt(t, g, 6, 0, 1, 2)
	wantAt(t, g, 7, 1, 2)
}

// P15.1: groups of no volumes, of all and of any others, in any order.
func TestNew(t *testing.T) {
	for n := range 1 << 4 {
		want := subset(n)
		orders(slices.Clone(want), func(l []int) {
			g := made(t, l...)
			wantNow(t, g, 0, want...)
			for _, mark := range asked {
				wantAt(t, g, mark, want...)
			}
			if b := g.Bytes(); !slices.Equal(b, []byte{byte(n), 0}) {
				t.Fatalf("New(%v) is encoded as % x", l, b)
			}
		})
	}
	wantNow(t, made(t), 0)
	wantNow(t, made(t, nil...), 0)
	wantNow(t, made(t, []int{}...), 0)
	wantNow(t, made(t, api.Volumes-1), 0, 3)
	wantNow(t, made(t, 3, 1, 0, 2), 0, 0, 1, 2, 3)
}

// P15.1: a volume that occurred before, directly or further ahead.
func TestNewTwice(t *testing.T) {
	for v := range 4 {
		noNew(t, v, api.ErrArg, v, v)
		noNew(t, v, api.ErrArg, v, v, v)
		w, x, y := (v+1)%4, (v+2)%4, (v+3)%4
		noNew(t, v, api.ErrArg, v, w, v)
		noNew(t, v, api.ErrArg, w, v, v)
		noNew(t, v, api.ErrArg, w, v, x, v)
		noNew(t, v, api.ErrArg, v, w, x, y, v)
		noNew(t, v, api.ErrArg, y, x, w, v, v)
	}
	noNew(t, 0, api.ErrArg, slices.Repeat([]int{0, 1, 2, 3}, 1<<16)...)
}

// P15.1: a volume that there isn't, in each place.
func TestNewAbsent(t *testing.T) {
	for _, v := range absent {
		noNew(t, v, api.ErrRange, v)
		noNew(t, v, api.ErrRange, v, v)
		for n := range 5 {
			noNew(t, v, api.ErrRange, slices.Insert([]int{2, 0, 3, 1}, n, v)...)
		}
	}
	noNew(t, api.Volumes, api.ErrRange, api.Volumes)
}

// P15.1: of several volumes that are wrong, it is the first one in order.
func TestNewFirst(t *testing.T) {
	cases := []struct {
		volumes []int
		at      int
		e       api.Errno
	}{
		{[]int{0, 1, 1, 0}, 1, api.ErrArg},
		{[]int{0, 1, 0, 1}, 0, api.ErrArg},
		{[]int{3, 2, 1, 0, 2, 3}, 2, api.ErrArg},
		{[]int{4, -1}, 4, api.ErrRange},
		{[]int{-1, 4}, -1, api.ErrRange},
		{[]int{0, 9, 0}, 9, api.ErrRange},
		{[]int{0, 0, 9}, 0, api.ErrArg},
		{[]int{9, 9, 9}, 9, api.ErrRange},
		{[]int{9, 0, 0}, 9, api.ErrRange},
		{[]int{3, 7, 3, 7}, 7, api.ErrRange},
		{[]int{3, 3, 7, 7}, 3, api.ErrArg},
		{[]int{1, math.MinInt, math.MaxInt, 1}, math.MinInt, api.ErrRange},
		{[]int{1, math.MaxInt, math.MinInt, 1}, math.MaxInt, api.ErrRange},
		{[]int{2, 1, 2, math.MinInt}, 2, api.ErrArg},
		{[]int{0, 1, 2, 3, 4}, 4, api.ErrRange},
		{[]int{0, 1, 2, 3, 0, 4}, 0, api.ErrArg},
	}
	for _, c := range cases {
		noNew(t, c.at, c.e, c.volumes...)
	}
}

// P15.1 to P15.4: the texts of the faults.
func TestFaultText(t *testing.T) {
	g, full := made(t, 0, 1), filled(t, 100)
	remove(t, g, 0, 5)
	_, twice := New(0, 3, 0)
	_, least := New(math.MinInt)
	_, none := FromBytes(nil)
	var down *Group
	for _, c := range []struct {
		err  error
		want string
	}{
		{twice, "member 0: arg"},
		{least, "member -9223372036854775808: range"},
		{none, "member 0: arg"},
		{g.Add(4, 9), "member 4: range"},
		{g.Remove(-1, 9), "member -1: range"},
		{g.Add(math.MaxInt, math.MaxInt), "member 9223372036854775807: range"},
		{g.Add(2, 5), "member 2: stale"},
		{g.Remove(3, 0), "member 3: stale"},
		{g.Add(1, greatest+1), "member 1: arg"},
		{g.Add(1, 6), "member 1: state"},
		{full.Remove(3, 101), "member 3: full"},
		{down.Add(3, 1), "member 0: down"},
		{down.Remove(9, 0), "member 0: down"},
	} {
		if c.err == nil || c.err.Error() != c.want {
			t.Errorf("the error is %v, want %q", c.err, c.want)
		}
	}
}

// P15.1: markers that are 0, negative, below, at and above those of changes, and the greatest.
func TestAt(t *testing.T) {
	g := made(t, 0, 1)
	add(t, g, 3, 2)
	remove(t, g, 1, 3)
	remove(t, g, 0, 10)
	add(t, g, 1, 1<<32)
	remove(t, g, 3, greatest-2)
	remove(t, g, 1, greatest)
	for _, mark := range append(slices.Clone(low), 1) {
		wantAt(t, g, mark, 0, 1)
	}
	wantAt(t, g, 2, 0, 1, 3)
	for _, mark := range []int{3, 4, 5, 8, 9} {
		wantAt(t, g, mark, 0, 3)
	}
	for _, mark := range []int{10, 11, 12, 100, math.MaxInt32, 1<<32 - 1} {
		wantAt(t, g, mark, 3)
	}
	for _, mark := range []int{1 << 32, 1<<32 + 1, 1 << 40, greatest - 3} {
		wantAt(t, g, mark, 1, 3)
	}
	for _, mark := range []int{greatest - 2, greatest - 1} {
		wantAt(t, g, mark, 1)
	}
	for _, mark := range append(slices.Clone(above), greatest) {
		wantAt(t, g, mark)
	}
	wantNow(t, g, greatest)
}

// P15.1: the volumes are in ascending order, however they were added.
func TestAtOrder(t *testing.T) {
	orders([]int{0, 1, 2, 3}, func(l []int) {
		g := made(t)
		for i, v := range l {
			add(t, g, v, i+1)
			want := slices.Clone(l[:i+1])
			slices.Sort(want)
			wantNow(t, g, i+1, want...)
		}
		for i, v := range l {
			remove(t, g, v, i+5)
			want := slices.Clone(l[i+1:])
			slices.Sort(want)
			wantNow(t, g, i+5, want...)
		}
	})
}

// P15.1: Now and Last ahead of any change, and behind each one.
func TestNowLast(t *testing.T) {
	g := made(t, 2)
	wantNow(t, g, 0, 2)
	add(t, g, 0, 1)
	wantNow(t, g, 1, 0, 2)
	remove(t, g, 2, 2)
	wantNow(t, g, 2, 0)
	remove(t, g, 0, 50)
	wantNow(t, g, 50)
	add(t, g, 3, 51)
	wantNow(t, g, 51, 3)
	add(t, g, 2, 1<<32+7)
	wantNow(t, g, 1<<32+7, 2, 3)
	noAdd(t, g, 2, 1<<32+8, api.ErrState)
	wantNow(t, g, 1<<32+7, 2, 3)
	add(t, g, 1, greatest)
	wantNow(t, g, greatest, 1, 2, 3)
}

// P15.2: a volume that there isn't, with any marker.
func TestChangeAbsent(t *testing.T) {
	for _, g := range []*Group{made(t), made(t, 0, 1, 2, 3), filled(t, 9), filled(t, 100)} {
		for _, v := range absent {
			for _, mark := range asked {
				noAdd(t, g, v, mark, api.ErrRange)
				noRemove(t, g, v, mark, api.ErrRange)
			}
		}
	}
}

// P15.2: markers that aren't above the last one, of volumes that are in and that aren't.
func TestChangeStale(t *testing.T) {
	late := made(t, 1)
	add(t, late, 0, greatest)
	for _, g := range []*Group{made(t), made(t, 0, 1, 2, 3), filled(t, 1), filled(t, 9), filled(t, 99), filled(t, 100), late} {
		for _, mark := range append(slices.Clone(asked), g.Last(), g.Last()-1) {
			if mark > g.Last() {
				continue
			}
			for v := range 4 {
				noAdd(t, g, v, mark, api.ErrStale)
				noRemove(t, g, v, mark, api.ErrStale)
			}
		}
	}
}

// P15.2: the next marker is enough, and the greatest one isn't too great.
func TestChangeMark(t *testing.T) {
	for _, changes := range []int{0, 1, 9, 99} {
		for v := range 4 {
			for _, more := range []int{1, 2, 100, greatest - changes} {
				g := filled(t, changes)
				swap(t, g, v, changes+more)
				if g.Last() != changes+more {
					t.Fatalf("Last = %d behind a change at %d", g.Last(), changes+more)
				}
			}
		}
	}
}

// P15.2: markers above 2^60 - 1, of volumes that are in and that aren't.
func TestChangeAbove(t *testing.T) {
	late := made(t, 1)
	add(t, late, 0, greatest)
	for _, g := range []*Group{made(t), made(t, 0, 1, 2, 3), filled(t, 9), filled(t, 99), filled(t, 100), late} {
		for _, mark := range above {
			for v := range 4 {
				noAdd(t, g, v, mark, api.ErrArg)
				noRemove(t, g, v, mark, api.ErrArg)
			}
		}
	}
}

// P15.2: volumes that are in can't be added, and others can't be removed.
func TestChangeState(t *testing.T) {
	for n := range 1 << 4 {
		g := made(t, subset(n)...)
		for v := range 4 {
			for _, mark := range []int{1, 2, 100, greatest} {
				if n&(1<<v) != 0 {
					noAdd(t, g, v, mark, api.ErrState)
				} else {
					noRemove(t, g, v, mark, api.ErrState)
				}
			}
		}
	}
}

// P15.2: it is the state after all changes that counts, also if an earlier one was another.
func TestChangeStateNow(t *testing.T) {
	g := made(t, 0)
	remove(t, g, 0, 1)
	noRemove(t, g, 0, 2, api.ErrState)
	add(t, g, 1, 2)
	noAdd(t, g, 1, 3, api.ErrState)
	add(t, g, 0, 3)
	noAdd(t, g, 0, 4, api.ErrState)
	remove(t, g, 1, 4)
	noRemove(t, g, 1, 5, api.ErrState)
	for _, v := range []int{2, 3} {
		noRemove(t, g, v, 5, api.ErrState)
	}
	wantNow(t, g, 4, 0)
}

// P15.2: a volume that was removed can be added again, and so on.
func TestAgain(t *testing.T) {
	for v := range 4 {
		g := made(t, v)
		for mark := 1; mark <= 100; mark += 2 {
			remove(t, g, v, mark)
			wantNow(t, g, mark)
			add(t, g, v, mark+1)
			wantNow(t, g, mark+1, v)
		}
		for mark := range 101 {
			wantAt(t, g, mark, subset((1-mark%2)<<v)...)
		}
	}
}

// P15.2: there are 100 changes at most.
func TestFull(t *testing.T) {
	g := filled(t, 98)
	swap(t, g, 0, 99)
	swap(t, g, 3, 100)
	wantNow(t, g, 100, 1, 3)
	for _, mark := range []int{101, 102, 1 << 32, greatest} {
		for v := range 4 {
			if slices.Contains(g.Now(), v) {
				noRemove(t, g, v, mark, api.ErrFull)
			} else {
				noAdd(t, g, v, mark, api.ErrFull)
			}
		}
	}
	wantTold(t, g, told(decoded(t, g.Bytes())))
}

// P15.2: which error it is where several of them hold.
func TestErrorOrder(t *testing.T) {
	full := filled(t, 100)
	wantNow(t, full, 100, 1, 3)
	in, out := 3, 0
	noAdd(t, full, 4, 0, api.ErrRange)
	noAdd(t, full, 4, greatest+1, api.ErrRange)
	noAdd(t, full, -1, 101, api.ErrRange)
	noRemove(t, full, 4, 100, api.ErrRange)
	noAdd(t, full, in, 100, api.ErrStale)
	noRemove(t, full, in, 100, api.ErrStale)
	noRemove(t, full, out, -1, api.ErrStale)
	noAdd(t, full, out, 0, api.ErrStale)
	noAdd(t, full, in, greatest+1, api.ErrArg)
	noRemove(t, full, in, greatest+1, api.ErrArg)
	noRemove(t, full, out, math.MaxInt, api.ErrArg)
	noAdd(t, full, out, math.MaxInt, api.ErrArg)
	noAdd(t, full, in, 101, api.ErrState)
	noRemove(t, full, out, greatest, api.ErrState)
	noAdd(t, full, out, 101, api.ErrFull)
	noRemove(t, full, in, greatest, api.ErrFull)
}

// R2: behind any errors, a group changes as if there were none.
func TestErrorsChangeNothing(t *testing.T) {
	g, h := made(t, 1, 2), made(t, 1, 2)
	for i := range 100 {
		for v := -1; v <= 4; v++ {
			_ = g.Add(v, i)
			_ = g.Remove(v, i)
			_ = g.Add(v, greatest+1)
			_ = g.Remove(v, greatest+1)
			if slices.Contains(g.Now(), v) {
				_ = g.Add(v, i+1)
			} else {
				_ = g.Remove(v, i+1)
			}
		}
		wantTold(t, g, told(h))
		swap(t, g, i%4, i+1)
		swap(t, h, i%4, i+1)
		wantTold(t, g, told(h))
	}
}

// P15.4: what belongs to the group at a marker stays when changes with greater markers follow.
func TestAtStays(t *testing.T) {
	g := made(t, 3)
	seen := map[int][]int{}
	for i := range 100 {
		mark := i*i/3 + i + 1
		for m := range mark + 3 {
			if want, ok := seen[m]; ok {
				wantAt(t, g, m, want...)
			}
		}
		swap(t, g, volumeOf(i), mark)
		for m := -2; m <= mark; m++ {
			if want, ok := seen[m]; ok {
				wantAt(t, g, m, want...)
			}
			seen[m] = g.At(m)
		}
	}
}

// P15.4: a nil Group, in every call.
func TestNil(t *testing.T) {
	var g *Group
	for _, mark := range asked {
		for _, v := range append([]int{0, 1, 2, 3}, absent...) {
			wantFault(t, g.Add(v, mark), 0, api.ErrDown)
			wantFault(t, g.Remove(v, mark), 0, api.ErrDown)
		}
		wantAt(t, g, mark)
	}
	wantNow(t, g, 0)
	if b := g.Bytes(); len(b) != 0 {
		t.Errorf("Bytes = % x", b)
	}
}

// A zero Group is one without volumes.
func TestZero(t *testing.T) {
	g := &Group{}
	wantTold(t, g, told(made(t)))
	noRemove(t, g, 0, 1, api.ErrState)
	add(t, g, 0, 1)
	wantNow(t, g, 1, 0)
}

// R3: what At and Now returned can be changed and appended to, and stays as it is when the
// group changes.
func TestListsAreNew(t *testing.T) {
	g := made(t, 0, 1, 3)
	add(t, g, 2, 5)
	before := told(g)
	for _, ask := range []func() []int{g.Now, func() []int { return g.At(5) }, func() []int { return g.At(0) }} {
		kept, l := ask(), ask()
		same := slices.Clone(kept)
		for i := range l {
			l[i] = 90 + i
		}
		_ = append(l[:1], 97, 96, 95)
		if !slices.Equal(kept, same) {
			t.Fatalf("two lists share their memory: %v became %v", same, kept)
		}
		wantTold(t, g, before)
	}
	now, at := g.Now(), g.At(3)
	remove(t, g, 0, 6)
	remove(t, g, 3, 7)
	if !slices.Equal(now, []int{0, 1, 2, 3}) || !slices.Equal(at, []int{0, 1, 3}) {
		t.Fatalf("what was returned is %v and %v now", now, at)
	}
}

// R3: the volumes that are passed to New stay as they are and aren't kept, and what is beyond
// them isn't used.
func TestNewKeepsNothing(t *testing.T) {
	memory := []int{3, 1, 0, 9, 2, 3}
	for n := range 4 {
		g := made(t, memory[:n]...)
		before := told(g)
		if !slices.Equal(memory, []int{3, 1, 0, 9, 2, 3}) {
			t.Fatalf("the arguments became %v", memory)
		}
		swap(t, g, 2, 1)
		swap(t, g, 3, 2)
		if !slices.Equal(memory, []int{3, 1, 0, 9, 2, 3}) {
			t.Fatalf("the arguments became %v", memory)
		}
		g = made(t, memory[:n]...)
		memory[0], memory[1], memory[2] = 2, 2, 2
		wantTold(t, g, before)
		memory[0], memory[1], memory[2] = 3, 1, 0
	}
	_, _ = New(memory...)
	if !slices.Equal(memory, []int{3, 1, 0, 9, 2, 3}) {
		t.Fatalf("the arguments became %v", memory)
	}
}

// R6: groups don't share anything with others, nor with copies.
func TestApart(t *testing.T) {
	for _, changes := range []int{0, 1, 2, 3, 4, 5, 6, 7, 8, 9, 20, 99} {
		a, b := filled(t, changes), filled(t, changes)
		c := *a
		x, y := told(a), told(b)
		swap(t, a, 0, changes+1)
		wantTold(t, b, y)
		wantTold(t, &c, x)
		z := told(a)
		swap(t, &c, 1, changes+2)
		wantTold(t, a, z)
		swap(t, b, 2, changes+3)
		wantTold(t, a, z)
		if c.Last() != changes+2 || b.Last() != changes+3 {
			t.Fatalf("Last = %d and %d", c.Last(), b.Last())
		}
	}
}
