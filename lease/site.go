package lease

import "isobar/api"

// Site is who may acknowledge writes of an epoch, until a time. A zero Site has no epoch.
type Site struct {
	clock
	epoch int // 0 if none was granted
	until int // the first time at which it may no longer acknowledge
}

// Grant lets s acknowledge writes of an epoch for LeaseTicks.
func (s *Site) Grant(epoch, now int) error {
	if s == nil {
		return failed(0, api.ErrDown)
	}
	now = s.at(now)
	switch {
	case epoch < 1:
		return failed(epoch, api.ErrArg)
	case epoch < s.epoch:
		return failed(epoch, api.ErrStale)
	}
	s.epoch, s.until = epoch, now+api.LeaseTicks
	return nil
}

// Check returns nil if s may acknowledge writes of an epoch at a time.
func (s *Site) Check(epoch, now int) error {
	if s == nil {
		return failed(0, api.ErrDown)
	}
	now = s.at(now)
	switch {
	case epoch != s.epoch, s.epoch == 0:
		return failed(epoch, api.ErrStale)
	case now >= s.until:
		return failed(epoch, api.ErrDown)
	}
	return nil
}

// Epoch returns the epoch of s, and the time until which s may acknowledge.
func (s *Site) Epoch() (epoch, until int) {
	if s == nil {
		return 0, 0
	}
	return s.epoch, s.until
}
