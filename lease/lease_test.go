package lease

import (
	"errors"
	"math"
	"testing"

	"isobar/api"
	"isobar/fault"
)

// latest is the greatest time.
const latest = 1 << 60

// early are times that count as 0.
var early = []int{0, -1, -2, -9, -10, -11, -64, math.MinInt32, -1<<32 + 5, -1 << 60, math.MinInt + 1, math.MinInt}

// late are times that count as the greatest one. Some of them would be smaller ones if only
// their lowest bits counted.
var late = []int{latest, latest + 1, latest + 9, latest + 10, 1<<61 + 3, 1<<62 - 1, math.MaxInt - 10, math.MaxInt - 1, math.MaxInt}

// between are times that count as themselves.
var between = []int{1, 2, 9, 10, 11, 63, 64, math.MaxInt32, 1 << 32, 1<<32 + 5, latest - 11, latest - 10, latest - 9, latest - 1}

// low are numbers that aren't epochs.
var low = []int{0, -1, -2, -64, math.MinInt32, -1<<32 + 1, -1 << 60, math.MinInt + 1, math.MinInt}

// high are great epochs, ascending. A site may be granted all of them.
var high = []int{1<<30 - 1, 1 << 30, 1<<30 + 1, math.MaxInt32, 1 << 32, 1<<32 + 1, 1<<60 - 1, 1 << 60, 1<<60 + 1, math.MaxInt - 1, math.MaxInt}

// wantFault checks that an error is the fault lease, at, around e.
func wantFault(t *testing.T, err error, at int, e api.Errno) {
	t.Helper()
	f, ok := err.(*fault.Fault)
	if !ok || f == nil || f.Op != "lease" || f.At != at || f.Err != error(e) {
		t.Fatalf("the error is %v, want the fault lease, %d, around %v", err, at, e)
	}
	if fault.Code(err) != e || !errors.Is(err, e) {
		t.Fatalf("%v doesn't have the code %v", err, e)
	}
}

// The chapter's example, and that of DOC.md.
func TestExample(t *testing.T) {
	f := &Fence{}
	promote(t, f, 0, 1, 0)
	renew(t, f, 1, 3)
	promote(t, f, 5, 2, 13)
	wantHolds(t, f, 12, 0)
	wantHolds(t, f, 13, 2)
}

// P16.1, P16.2, P16.4: what the faults' texts are.
func TestTexts(t *testing.T) {
	s, f := granted(t, 3, 0), waiting(t)
	for _, c := range []struct {
		err  error
		text string
	}{
		{s.Grant(-1, 0), "lease -1: arg"},
		{s.Grant(2, 0), "lease 2: stale"},
		{s.Check(4, 0), "lease 4: stale"},
		{s.Check(3, 10), "lease 3: down"},
		{f.Renew(1, 0), "lease 1: stale"},
		{f.Renew(2, 9), "lease 2: state"},
		{promoteError(promoted(t, 1<<30)), "lease 1073741824: full"},
		{(*Site)(nil).Check(3, 10), "lease 0: down"},
	} {
		if c.err == nil || c.err.Error() != c.text {
			t.Errorf("the error is %v, want %s", c.err, c.text)
		}
	}
}

// P16.4: a nil Site and a nil Fence, with arguments that would be right and others.
func TestNil(t *testing.T) {
	var s *Site
	var f *Fence
	for _, epoch := range append([]int{1, 2, 5}, append(low, high...)...) {
		for _, now := range append([]int{3, 13}, append(early, late...)...) {
			wantFault(t, s.Grant(epoch, now), 0, api.ErrDown)
			wantFault(t, s.Check(epoch, now), 0, api.ErrDown)
			wantEpoch(t, s, 0, 0)
			wantFault(t, f.Renew(epoch, now), 0, api.ErrDown)
			noPromote(t, f, now, 0, api.ErrDown)
			wantHolds(t, f, now, 0)
		}
	}
}

// The words: a zero Site and a zero Fence have no epoch, and the time 0.
func TestZero(t *testing.T) {
	var s Site
	var f Fence
	wantEpoch(t, &s, 0, 0)
	noCheck(t, &s, 0, 0, api.ErrStale)
	grant(t, &s, 1, -5)
	wantEpoch(t, &s, 1, 10)
	wantHolds(t, &f, 0, 0)
	noRenew(t, &f, 0, 0, api.ErrStale)
	promote(t, &f, -5, 1, 0)
}

// R6: sites and fences don't share anything, not even a time, and neither do their copies.
func TestApart(t *testing.T) {
	s, other := granted(t, 3, 0), &Site{}
	f, another := promoted(t, 3), &Fence{}
	copied, copiedFence := *s, *f
	grant(t, s, 5, 100)
	renew(t, f, 3, 100)
	promote(t, f, 200, 4, 200)
	wantEpoch(t, other, 0, 0)
	grant(t, other, 1, 7)
	wantEpoch(t, other, 1, 17)
	promote(t, another, 7, 1, 7)
	wantEpoch(t, &copied, 3, 10)
	grant(t, &copied, 4, 8)
	wantEpoch(t, &copied, 4, 18)
	wantEpoch(t, s, 5, 110)
	promote(t, &copiedFence, 9, 4, 9)
	wantHolds(t, f, 200, 4)
}
