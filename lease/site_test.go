package lease

import (
	"testing"

	"isobar/api"
)

// grant grants a site an epoch.
func grant(t *testing.T, s *Site, epoch, now int) {
	t.Helper()
	if err := s.Grant(epoch, now); err != nil {
		t.Fatalf("Grant(%d, %d) = %v", epoch, now, err)
	}
}

// granted returns a site with an epoch.
func granted(t *testing.T, epoch, now int) *Site {
	t.Helper()
	s := &Site{}
	grant(t, s, epoch, now)
	return s
}

// noGrant checks that a Grant is refused with this error, and grants nothing.
func noGrant(t *testing.T, s *Site, epoch, now int, e api.Errno) {
	t.Helper()
	had, until := s.Epoch()
	wantFault(t, s.Grant(epoch, now), epoch, e)
	wantEpoch(t, s, had, until)
}

// check checks that a site may acknowledge.
func check(t *testing.T, s *Site, epoch, now int) {
	t.Helper()
	had, until := s.Epoch()
	if err := s.Check(epoch, now); err != nil {
		t.Fatalf("Check(%d, %d) = %v", epoch, now, err)
	}
	wantEpoch(t, s, had, until)
}

// noCheck checks that a site may not acknowledge, for this reason.
func noCheck(t *testing.T, s *Site, epoch, now int, e api.Errno) {
	t.Helper()
	had, until := s.Epoch()
	wantFault(t, s.Check(epoch, now), epoch, e)
	wantEpoch(t, s, had, until)
}

// wantEpoch checks the epoch of a site, and until when it may acknowledge.
func wantEpoch(t *testing.T, s *Site, epoch, until int) {
	t.Helper()
	for range 2 {
		if e, u := s.Epoch(); e != epoch || u != until {
			t.Fatalf("Epoch = %d, %d, want %d, %d", e, u, epoch, until)
		}
	}
}

// wantTime checks that the greatest time that was passed to a site is this one. It grants the
// site's copy an epoch.
func wantTime(t *testing.T, s *Site, now int) {
	t.Helper()
	c := *s
	epoch, _ := c.Epoch()
	epoch = max(epoch, 1)
	grant(t, &c, epoch, 0)
	wantEpoch(t, &c, epoch, now+10)
}

// P16.1: an epoch is granted if it is at least 1, and not below that of the site.
func TestGrant(t *testing.T) {
	s := &Site{}
	for i, epoch := range append([]int{1, 2, 3, 7, 8, 100}, high...) {
		grant(t, s, epoch, i)
		wantEpoch(t, s, epoch, i+10)
		grant(t, s, epoch, i) // the same again
		wantEpoch(t, s, epoch, i+10)
	}
	for _, epoch := range high {
		grant(t, &Site{}, epoch, 0)
	}
}

// P16.1: which epochs are refused, and that ErrArg is named first.
func TestNoGrant(t *testing.T) {
	for _, s := range []*Site{{}, granted(t, 1, 3), granted(t, 5, 3), granted(t, high[len(high)-1], 3)} {
		for _, epoch := range low {
			noGrant(t, s, epoch, 4, api.ErrArg)
		}
	}
	s := granted(t, 5, 3)
	for epoch := 1; epoch < 5; epoch++ {
		noGrant(t, s, epoch, 4, api.ErrStale)
	}
	grant(t, s, 5, 4)
	for _, epoch := range high {
		grant(t, s, epoch, 4)
		noGrant(t, s, epoch-1, 4, api.ErrStale)
		noGrant(t, s, 1, 4, api.ErrStale)
		wantEpoch(t, s, epoch, 14)
	}
}

// P16.1: the same epoch may be granted again, later, at the same time, and earlier, which is
// then the greatest time before. So the time until which the site may acknowledge never
// becomes smaller.
func TestGrantAgain(t *testing.T) {
	s := granted(t, 2, 5)
	wantEpoch(t, s, 2, 15)
	grant(t, s, 2, 6)
	wantEpoch(t, s, 2, 16)
	for _, now := range append([]int{6, 5, 1}, early...) {
		grant(t, s, 2, now)
		wantEpoch(t, s, 2, 16)
	}
	grant(t, s, 2, 16) // at the end of the lease
	wantEpoch(t, s, 2, 26)
	grant(t, s, 2, 40) // behind it
	wantEpoch(t, s, 2, 50)
	check(t, s, 2, 49)
	grant(t, s, 2, 3) // a Check was at 49 by then
	wantEpoch(t, s, 2, 59)
	grant(t, s, 3, 3)
	wantEpoch(t, s, 3, 59)
}

// P16.1: Check ahead of any Grant, of all epochs.
func TestCheckWithoutGrant(t *testing.T) {
	for _, epoch := range append([]int{1, 2, 3}, append(low, high...)...) {
		for _, now := range append([]int{1, 9, 10, 11}, append(early, late...)...) {
			noCheck(t, &Site{}, epoch, now, api.ErrStale)
		}
	}
	s := &Site{}
	noGrant(t, s, 0, 0, api.ErrArg)
	noCheck(t, s, 0, 0, api.ErrStale)
	noCheck(t, s, 1, 0, api.ErrStale)
}

// P16.1: a site may acknowledge up to the last time before the end, and only in its epoch.
func TestCheck(t *testing.T) {
	for _, epoch := range append([]int{1, 2, 5}, high...) {
		s := granted(t, epoch, 7)
		for now := 6; now < 17; now++ {
			check(t, s, epoch, now)
		}
		check(t, s, epoch, 16)
		check(t, s, epoch, 3) // at 16, in fact
		for now := 17; now < 30; now++ {
			noCheck(t, s, epoch, now, api.ErrDown)
		}
		noCheck(t, s, epoch, 16, api.ErrDown) // at 29
		noCheck(t, s, epoch, 0, api.ErrDown)
		grant(t, s, epoch, 0)
		check(t, s, epoch, 0)
		wantEpoch(t, s, epoch, 39)
	}
}

// P16.1: Check of another epoch than that of the site, whether or not its lease has ended.
func TestCheckOther(t *testing.T) {
	others := append([]int{1, 2, 3, 4, 6, 7}, append(low, high...)...)
	for _, now := range []int{0, 1, 9, 10, 11, 100, latest} {
		s := granted(t, 5, 0)
		for _, epoch := range others {
			noCheck(t, s, epoch, now, api.ErrStale)
		}
	}
	s := granted(t, 5, 0)
	grant(t, s, 6, 1)
	noCheck(t, s, 5, 1, api.ErrStale)
	check(t, s, 6, 1)
	top := granted(t, high[len(high)-1], 0)
	noCheck(t, top, -1, 0, api.ErrStale)
	noCheck(t, top, 0, 0, api.ErrStale)
}

// The words: times are clamped, in Grant and in Check.
func TestSiteTimes(t *testing.T) {
	try := func(now, counts int) {
		t.Helper()
		s := granted(t, 1, now)
		wantEpoch(t, s, 1, counts+10)
		check(t, s, 1, now)
		s = granted(t, 1, 0)
		if counts < 10 {
			check(t, s, 1, now)
		} else {
			noCheck(t, s, 1, now, api.ErrDown)
		}
		wantTime(t, s, counts)
	}
	for _, now := range early {
		try(now, 0)
	}
	for _, now := range between {
		try(now, now)
	}
	for _, now := range late {
		try(now, latest)
	}
}

// P16.1: a lease that ends above 2^60 never ends, as no time is that great.
func TestLateSite(t *testing.T) {
	for ahead := range 10 {
		s := granted(t, 1, latest-ahead)
		wantEpoch(t, s, 1, latest-ahead+10)
		for _, now := range late {
			check(t, s, 1, now)
		}
		grant(t, s, 1, latest+99)
		wantEpoch(t, s, 1, latest+10)
	}
	s := granted(t, 1, latest-10)
	check(t, s, 1, latest-1)
	noCheck(t, s, 1, latest, api.ErrDown)
}

// The words: each time is remembered, whatever the call returns, and a smaller one is replaced
// by it.
func TestSiteRemembers(t *testing.T) {
	for _, now := range append([]int{20}, between...) {
		s := granted(t, 2, 0)
		noGrant(t, s, 0, now, api.ErrArg)
		wantTime(t, s, now)
		s = granted(t, 2, 0)
		noGrant(t, s, 1, now, api.ErrStale)
		wantTime(t, s, now)
		s = granted(t, 2, 0)
		noCheck(t, s, 1, now, api.ErrStale)
		wantTime(t, s, now)
		s = &Site{}
		noCheck(t, s, 0, now, api.ErrStale)
		wantTime(t, s, now)
		s = granted(t, 2, max(now-10, 0))
		if now >= 10 {
			noCheck(t, s, 2, now, api.ErrDown)
		} else {
			check(t, s, 2, now)
		}
		wantTime(t, s, now)
		s = granted(t, 2, now)
		wantTime(t, s, now)
		for _, smaller := range append([]int{now, now - 1}, early...) {
			noGrant(t, s, 1, smaller, api.ErrStale)
			check(t, s, 2, smaller)
			wantTime(t, s, now)
		}
	}
}

// The words: a time that a refused call was passed ends the lease, for later calls with
// smaller times as well.
func TestSiteTimeEndsLease(t *testing.T) {
	for _, now := range []int{10, 11, latest} {
		s := granted(t, 2, 0)
		noGrant(t, s, -1, now, api.ErrArg)
		noCheck(t, s, 2, 0, api.ErrDown)
		s = granted(t, 2, 0)
		noGrant(t, s, 1, now, api.ErrStale)
		noCheck(t, s, 2, 9, api.ErrDown)
		s = granted(t, 2, 0)
		noCheck(t, s, 3, now, api.ErrStale)
		noCheck(t, s, 2, -1, api.ErrDown)
	}
}
