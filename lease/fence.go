package lease

import (
	"errors"

	"isobar/api"
)

// maxEpoch is the greatest epoch.
const maxEpoch = 1 << 30

// Fence is who begins epochs, each one in effect only when no lease of an earlier one
// lasts any longer. A zero Fence has begun none.
type Fence struct {
	clock
	last  int // the last epoch; 0 if none was begun
	from  int // the time from which it is in effect
	until int // the time until which granted leases last
}

// Renew grants leases of the last epoch for LeaseTicks.
func (f *Fence) Renew(epoch, now int) error {
	if f == nil {
		return failed(0, api.ErrDown)
	}
	now = f.at(now)
	if err := f.check(epoch, now); err != nil {
		return err
	}
	f.until = now + api.LeaseTicks
	return nil
}

// Promote begins the next epoch, and returns it and the time from which it is in effect.
func (f *Fence) Promote(now int) (epoch, from int, e error) {
	if f == nil {
		return 0, 0, failed(0, api.ErrDown)
	}
	now = f.at(now)
	if f.last >= maxEpoch {
		return 0, 0, failed(f.last, api.ErrFull)
	}
	f.last, f.from = f.last+1, max(now, f.until)
	return f.last, f.from, nil
}

// Holds returns the last epoch if it is in effect at a time, and 0 otherwise.
func (f *Fence) Holds(now int) int {
	if f == nil {
		return 0
	}
	// The last epoch can't be renewed as long as it isn't in effect.
	if errors.Is(f.check(f.last, f.at(now)), api.ErrState) {
		return 0
	}
	return f.last
}

// check returns nil if an epoch may be renewed at a time.
func (f *Fence) check(epoch, now int) error {
	switch {
	case epoch != f.last, f.last == 0:
		return failed(epoch, api.ErrStale)
	case now < f.from:
		return failed(epoch, api.ErrState)
	}
	return nil
}
