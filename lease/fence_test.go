package lease

import (
	"testing"

	"isobar/api"
)

// promote begins an epoch, and checks which, and from when on it is in effect.
func promote(t *testing.T, f *Fence, now, epoch, from int) {
	t.Helper()
	if e, at, err := f.Promote(now); e != epoch || at != from || err != nil {
		t.Fatalf("Promote(%d) = %d, %d, %v, want %d, %d", now, e, at, err, epoch, from)
	}
}

// promoted returns a fence that has begun this epoch at 0, without any leases. The last few
// epochs are begun by Promote; to begin 2^30 of them takes too long.
func promoted(t *testing.T, epoch int) *Fence {
	t.Helper()
	f := &Fence{last: max(epoch-3, 0)}
	for f.last < epoch {
		promote(t, f, 0, f.last+1, 0)
	}
	return f
}

// waiting returns a fence whose epoch 2 is in effect from 10, and whose time is 0.
func waiting(t *testing.T) *Fence {
	t.Helper()
	f := promoted(t, 1)
	renew(t, f, 1, 0)
	promote(t, f, 0, 2, 10)
	return f
}

// promoteError returns the error of a Promote.
func promoteError(f *Fence) error {
	_, _, err := f.Promote(0)
	return err
}

// noPromote checks that a Promote is refused with this error, and returns nothing beside it.
func noPromote(t *testing.T, f *Fence, now, at int, e api.Errno) {
	t.Helper()
	epoch, from, err := f.Promote(now)
	wantFault(t, err, at, e)
	if epoch != 0 || from != 0 {
		t.Fatalf("Promote(%d) = %d, %d beside %v", now, epoch, from, err)
	}
}

// renew renews the last epoch.
func renew(t *testing.T, f *Fence, epoch, now int) {
	t.Helper()
	if err := f.Renew(epoch, now); err != nil {
		t.Fatalf("Renew(%d, %d) = %v", epoch, now, err)
	}
}

// noRenew checks that a Renew is refused with this error, and grants nothing.
func noRenew(t *testing.T, f *Fence, epoch, now int, e api.Errno) {
	t.Helper()
	had := *f
	wantFault(t, f.Renew(epoch, now), epoch, e)
	wantSame(t, f, &had)
}

// wantSame checks that two fences don't differ but in their times: with the same time, they
// tell the same.
func wantSame(t *testing.T, f, other *Fence) {
	t.Helper()
	a, b := *f, *other
	now := max(a.latest, b.latest)
	if x, y := a.Holds(now), b.Holds(now); x != y {
		t.Fatalf("Holds(%d) = %d, was %d", now, x, y)
	}
	e, from, err := a.Promote(now)
	e2, from2, err2 := b.Promote(now)
	if e != e2 || from != from2 || (err == nil) != (err2 == nil) {
		t.Fatalf("Promote(%d) = %d, %d, %v, was %d, %d, %v", now, e, from, err, e2, from2, err2)
	}
}

// wantHolds checks which epoch a fence holds at a time.
func wantHolds(t *testing.T, f *Fence, now, epoch int) {
	t.Helper()
	for range 2 {
		if e := f.Holds(now); e != epoch {
			t.Fatalf("Holds(%d) = %d, want %d", now, e, epoch)
		}
	}
}

// wantFenceTime checks that the greatest time that was passed to a fence without leases is
// this one. It promotes the fence's copy.
func wantFenceTime(t *testing.T, f *Fence, now int) {
	t.Helper()
	c := *f
	if _, from, err := c.Promote(0); from != now || err != nil {
		t.Fatalf("Promote(0) begins an epoch at %d, %v, want %d", from, err, now)
	}
}

// P16.2: the epochs are 1, 2 and so on, at one time and at later ones; without leases they are
// in effect at once.
func TestPromote(t *testing.T) {
	f := &Fence{}
	for epoch := 1; epoch <= 5; epoch++ {
		promote(t, f, 0, epoch, 0)
		wantHolds(t, f, 0, epoch)
	}
	for epoch := 6; epoch <= 50; epoch++ {
		promote(t, f, epoch/3, epoch, epoch/3)
		wantHolds(t, f, epoch/3, epoch)
	}
	promote(t, f, 3, 51, 16) // an earlier time
	promote(t, f, 1000, 52, 1000)
}

// P16.2: while a lease lasts, an epoch is in effect from its end; at its end and behind it, at
// once.
func TestPromoteAmidLease(t *testing.T) {
	for now := range 40 {
		f := promoted(t, 1)
		renew(t, f, 1, 7)
		from := max(now, 17)
		promote(t, f, now, 2, from)
		if now < 17 {
			wantHolds(t, f, now, 0)
			wantHolds(t, f, 16, 0)
		}
		promote(t, f, now, 3, from) // again at that time: the lease still counts
		wantHolds(t, f, from, 3)
	}
}

// P16.2: the latest Renew counts, of whichever epoch.
func TestPromoteBehindLeases(t *testing.T) {
	f := promoted(t, 1)
	renew(t, f, 1, 0)
	renew(t, f, 1, 4)
	renew(t, f, 1, 4)
	renew(t, f, 1, 2) // at 4, in fact
	promote(t, f, 5, 2, 14)
	promote(t, f, 6, 3, 14)
	noRenew(t, f, 2, 14, api.ErrStale)
	renew(t, f, 3, 14)
	promote(t, f, 15, 4, 24)
	promote(t, f, 24, 5, 24)
	promote(t, f, 25, 6, 25)
}

// P16.2: the epochs end with 2^30, and an error begins none.
func TestFull(t *testing.T) {
	f := promoted(t, 1<<30-1)
	promote(t, f, 0, 1<<30, 0)
	for _, now := range []int{0, 1, 5, 3} {
		noPromote(t, f, now, 1<<30, api.ErrFull)
		wantHolds(t, f, now, 1<<30)
	}
	renew(t, f, 1<<30, 8)
	noPromote(t, f, 8, 1<<30, api.ErrFull)
	wantHolds(t, f, 8, 1<<30) // not one that isn't in effect before 18
	renew(t, f, 1<<30, 9)
	noRenew(t, f, 1<<30+1, 9, api.ErrStale)
	noRenew(t, f, 0, 9, api.ErrStale)
}

// P16.2: a Promote that is refused doesn't make the last epoch wait for its own leases.
func TestFullKeepsFrom(t *testing.T) {
	f := promoted(t, 1<<30-1)
	renew(t, f, 1<<30-1, 0)
	promote(t, f, 3, 1<<30, 10)
	noPromote(t, f, 4, 1<<30, api.ErrFull)
	wantHolds(t, f, 9, 0)
	noPromote(t, f, 9, 1<<30, api.ErrFull)
	noRenew(t, f, 1<<30, 9, api.ErrState)
	wantHolds(t, f, 10, 1<<30)
	renew(t, f, 1<<30, 10)
	noPromote(t, f, 11, 1<<30, api.ErrFull)
	wantHolds(t, f, 11, 1<<30)
}

// P16.2: Renew ahead of any Promote, of all epochs.
func TestRenewWithoutPromote(t *testing.T) {
	for _, epoch := range append([]int{1, 2}, append(low, high...)...) {
		for _, now := range append([]int{1, 10}, append(early, late...)...) {
			f := &Fence{}
			noRenew(t, f, epoch, now, api.ErrStale)
			promote(t, f, 0, 1, min(max(now, 0), latest))
		}
	}
}

// P16.2: an epoch can't be renewed before it is in effect, and then at any time.
func TestRenew(t *testing.T) {
	f := waiting(t)
	for now := range 10 {
		noRenew(t, f, 2, now, api.ErrState)
	}
	renew(t, f, 2, 10)
	for _, now := range []int{10, 11, 15, 20, 21, 50, 7} {
		renew(t, f, 2, now)
	}
	promote(t, f, 51, 3, 60)
	f = waiting(t)
	renew(t, f, 2, 11)
	f = waiting(t)
	renew(t, f, 2, 1000)
}

// P16.2: another epoch than the last one can't be renewed, before the last one is in effect
// and behind that; ErrStale is named first.
func TestRenewOther(t *testing.T) {
	others := append([]int{1, 3, 4}, append(low, high...)...)
	for _, now := range []int{0, 5, 9, 10, 11, 100, latest} {
		f := waiting(t)
		for _, epoch := range others {
			noRenew(t, f, epoch, now, api.ErrStale)
		}
	}
	f := promoted(t, 5)
	for epoch := 0; epoch <= 8; epoch++ {
		if epoch != 5 {
			noRenew(t, f, epoch, 0, api.ErrStale)
		}
	}
	renew(t, f, 5, 0)
}

// P16.2: Holds ahead of any Promote, before the epoch is in effect, then, and behind that.
func TestHolds(t *testing.T) {
	for _, now := range append([]int{1, 10}, append(early, late...)...) {
		wantHolds(t, &Fence{}, now, 0)
	}
	f := waiting(t)
	for now := range 10 {
		wantHolds(t, f, now, 0)
		wantHolds(t, f, now-1, 0)
	}
	for _, now := range []int{10, 11, 20, 100} {
		wantHolds(t, f, now, 2)
		for _, smaller := range append([]int{9, 10}, early...) {
			wantHolds(t, f, smaller, 2)
		}
	}
	renew(t, f, 2, 100)
	wantHolds(t, f, 200, 2) // whether or not its lease has ended
}

// The words: times are clamped, in each method.
func TestFenceTimes(t *testing.T) {
	try := func(now, counts int) {
		t.Helper()
		f := &Fence{}
		promote(t, f, now, 1, counts)
		renew(t, f, 1, now)
		promote(t, f, now, 2, counts+10)
		f = promoted(t, 1)
		renew(t, f, 1, now)
		promote(t, f, 0, 2, counts+10)
		f = &Fence{}
		wantHolds(t, f, now, 0)
		wantFenceTime(t, f, counts)
	}
	for _, now := range early {
		try(now, 0)
	}
	for _, now := range between {
		try(now, now)
	}
	for _, now := range late {
		try(now, latest)
	}
}

// P16.2: an epoch that waits for a lease that ends above 2^60 is never in effect, as no time is
// that great.
func TestLateFence(t *testing.T) {
	for ahead := range 10 {
		f := promoted(t, 1)
		renew(t, f, 1, latest-ahead)
		promote(t, f, latest, 2, latest-ahead+10)
		for _, now := range late {
			wantHolds(t, f, now, 0)
			noRenew(t, f, 2, now, api.ErrState)
		}
		promote(t, f, latest+50, 3, latest-ahead+10)
		wantHolds(t, f, latest+50, 0)
	}
	f := promoted(t, 1)
	renew(t, f, 1, latest-10)
	promote(t, f, latest-1, 2, latest)
	wantHolds(t, f, latest-1, 0)
	wantHolds(t, f, latest+1, 2)
	renew(t, f, 2, latest+1)
	promote(t, f, 0, 3, latest+10)
}

// The words: each time is remembered, whatever the call returns, and a smaller one is replaced
// by it.
func TestFenceRemembers(t *testing.T) {
	for _, now := range append([]int{20}, between...) {
		f := &Fence{}
		noRenew(t, f, 0, now, api.ErrStale)
		wantFenceTime(t, f, now)
		f = promoted(t, 2)
		noRenew(t, f, 1, now, api.ErrStale)
		wantFenceTime(t, f, now)
		f = &Fence{}
		promote(t, f, now, 1, now)
		wantFenceTime(t, f, now)
		for _, smaller := range append([]int{now, now - 1}, early...) {
			noRenew(t, f, 2, smaller, api.ErrStale)
			wantHolds(t, f, smaller, 1)
			wantFenceTime(t, f, now)
		}
		f = &Fence{}
		wantHolds(t, f, now, 0)
		wantFenceTime(t, f, now)
		f = promoted(t, 2)
		wantHolds(t, f, now, 2)
		wantFenceTime(t, f, now)
		f = promoted(t, 2)
		renew(t, f, 2, now)
		renew(t, f, 2, 0)
		promote(t, f, 0, 3, now+10)
	}
}

// The words: the times of calls that return an error, or hold no epoch, let an epoch be in
// effect for later calls with smaller times.
func TestFenceTimeReachesFrom(t *testing.T) {
	for _, now := range []int{10, 11, latest} {
		f := waiting(t)
		noRenew(t, f, 1, now, api.ErrStale)
		wantHolds(t, f, 0, 2)
		f = waiting(t)
		wantHolds(t, f, now, 2)
		renew(t, f, 2, 0)
		f = promoted(t, 1<<30-1)
		renew(t, f, 1<<30-1, 0)
		promote(t, f, 0, 1<<30, 10)
		noPromote(t, f, now, 1<<30, api.ErrFull)
		wantHolds(t, f, 0, 1<<30)
	}
	f := waiting(t)
	noRenew(t, f, 2, 9, api.ErrState)
	wantHolds(t, f, 0, 0)
	promote(t, f, 0, 3, 10)
	f = waiting(t)
	noRenew(t, f, 2, 9, api.ErrState)
	renew(t, f, 2, 10)
	noRenew(t, f, 1, 10, api.ErrStale)
	promote(t, f, 3, 3, 20)
}
