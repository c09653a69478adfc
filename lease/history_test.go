package lease

import (
	"math/rand"
	"slices"
	"testing"

	"isobar/api"
)

// call is a call of a Site or a Fence.
type call struct {
	name       string
	epoch, now int
}

// answer is what a call returns: the numbers, if any, and the code of its fault.
type answer struct {
	a, b int
	code api.Errno
}

// timeOf returns the time of the last of these calls: the greatest one that was passed so far.
func timeOf(calls []call) int {
	now := 0
	for _, c := range calls {
		if c.now > now {
			now = c.now
		}
	}
	if now > latest {
		return latest
	}
	return now
}

// siteModel is a site as the chapter words it.
type siteModel struct {
	calls  []call
	grants [][2]int // the epoch and the time of each
}

// epoch returns the epoch, and the time until which the site may acknowledge.
func (m *siteModel) epoch() (epoch, until int) {
	if len(m.grants) == 0 {
		return 0, 0
	}
	g := m.grants[len(m.grants)-1]
	return g[0], g[1] + 10
}

// answer returns what a call is to return.
func (m *siteModel) answer(c call) answer {
	m.calls = append(m.calls, c)
	now := timeOf(m.calls)
	epoch, until := m.epoch()
	switch {
	case c.name == "Grant" && c.epoch < 1:
		return answer{code: api.ErrArg}
	case c.name == "Grant" && c.epoch < epoch:
		return answer{code: api.ErrStale}
	case c.name == "Grant":
		m.grants = append(m.grants, [2]int{c.epoch, now})
	case c.epoch != epoch || epoch == 0:
		return answer{code: api.ErrStale}
	case now >= until:
		return answer{code: api.ErrDown}
	}
	return answer{}
}

// fenceModel is a fence as the chapter words it.
type fenceModel struct {
	calls  []call
	before int   // how many epochs were begun before these, all of them at 0
	froms  []int // the time from which each epoch is in effect
	renews []int // the time of each lease
}

// last returns the last epoch, and the time from which it is in effect.
func (m *fenceModel) last() (epoch, from int) {
	if len(m.froms) > 0 {
		from = m.froms[len(m.froms)-1]
	}
	return m.before + len(m.froms), from
}

// answer returns what a call is to return.
func (m *fenceModel) answer(c call) answer {
	m.calls = append(m.calls, c)
	now := timeOf(m.calls)
	last, from := m.last()
	switch {
	case c.name == "Promote" && last+1 > 1<<30:
		return answer{code: api.ErrFull}
	case c.name == "Promote":
		from = now
		for _, at := range m.renews {
			from = max(from, at+10)
		}
		m.froms = append(m.froms, from)
		return answer{a: last + 1, b: from}
	case c.name == "Holds" && now >= from:
		return answer{a: last}
	case c.name == "Holds":
		return answer{}
	case c.epoch != last || last == 0:
		return answer{code: api.ErrStale}
	case now < from:
		return answer{code: api.ErrState}
	}
	m.renews = append(m.renews, now)
	return answer{}
}

// wantError checks the error of a call.
func wantError(t *testing.T, err error, at int, code api.Errno) {
	t.Helper()
	if code != api.OK {
		wantFault(t, err, at, code)
	} else if err != nil {
		t.Fatalf("the error is %v, want none", err)
	}
}

// playSite makes calls of a new site, and compares it with its model.
func playSite(t *testing.T, calls []call) {
	t.Helper()
	defer logged(t, calls)
	s, m := &Site{}, &siteModel{}
	for _, c := range calls {
		want := m.answer(c)
		if c.name == "Grant" {
			wantError(t, s.Grant(c.epoch, c.now), c.epoch, want.code)
		} else {
			wantError(t, s.Check(c.epoch, c.now), c.epoch, want.code)
		}
		epoch, until := m.epoch()
		wantEpoch(t, s, epoch, until)
	}
}

// playFence makes calls of a fence that has begun so many epochs at 0, and compares it with
// its model.
func playFence(t *testing.T, before int, calls []call) {
	t.Helper()
	defer logged(t, calls)
	f, m := promoted(t, before), &fenceModel{before: before}
	for _, c := range calls {
		want := m.answer(c)
		switch c.name {
		case "Promote":
			last, _ := m.last()
			epoch, from, err := f.Promote(c.now)
			wantError(t, err, last, want.code)
			if epoch != want.a || from != want.b {
				t.Fatalf("Promote(%d) = %d, %d, want %d, %d", c.now, epoch, from, want.a, want.b)
			}
		case "Holds":
			wantHolds(t, f, c.now, want.a)
		default:
			wantError(t, f.Renew(c.epoch, c.now), c.epoch, want.code)
		}
	}
}

// logged tells the calls of a test that failed.
func logged(t *testing.T, calls []call) {
	if t.Failed() {
		t.Logf("the calls are %v", calls)
	}
}

// all plays all histories of n of these calls.
func all(calls, before []call, n int, play func([]call)) {
	if n == 0 {
		play(before)
		return
	}
	for _, c := range calls {
		all(calls, append(slices.Clone(before), c), n-1, play)
	}
}

// each returns the calls of a name with all of these epochs and times.
func each(name string, epochs, times []int) []call {
	var out []call
	for _, epoch := range epochs {
		for _, now := range times {
			out = append(out, call{name, epoch, now})
		}
	}
	return out
}

// P16.1: all short histories of a site.
func TestSiteHistories(t *testing.T) {
	play := func(calls []call) { playSite(t, calls) }
	times := []int{-1, 0, 1, 9, 10, 11}
	some := append(each("Grant", []int{0, 1, 2}, times), each("Check", []int{0, 1, 2, 3}, times)...)
	all(some, nil, 3, play)
	times = []int{0, 10, latest, latest + 1}
	few := append(each("Grant", []int{1, 2}, times), each("Check", []int{1, 2}, times)...)
	all(few, nil, 4, play)
}

// P16.2: all short histories of a fence, and of one that has begun nearly all epochs.
func TestFenceHistories(t *testing.T) {
	for _, before := range []int{0, 1<<30 - 1} {
		play := func(calls []call) { playFence(t, before, calls) }
		epochs := []int{before, before + 1, before + 2}
		times := []int{-1, 0, 1, 10, 11}
		some := append(each("Renew", epochs, times), each("Promote", []int{0}, times)...)
		some = append(some, each("Holds", []int{0}, times)...)
		all(some, nil, 3, play)
		times = []int{0, 9, 10}
		few := append(each("Renew", epochs[1:], times), each("Promote", []int{0}, times)...)
		all(append(few, each("Holds", []int{0}, []int{9, 19})...), nil, 5, play)
	}
}

// varied returns a call that is likely to succeed, or now and then one with another time or
// epoch.
func varied(random *rand.Rand, name string, epoch, now int) call {
	switch random.Intn(24) {
	case 0, 1:
		now -= random.Intn(20)
	case 2:
		now = early[random.Intn(len(early))]
	case 3:
		epoch = low[random.Intn(len(low))]
	case 4:
		epoch += random.Intn(3) - 1
	}
	return call{name, epoch, now}
}

// P16.1, P16.2: long histories, in which times go back now and then, and in the end some
// reach the greatest time.
func TestLongHistories(t *testing.T) {
	random := rand.New(rand.NewSource(16))
	for n := range 200 {
		var site, fence []call
		now, last := 0, 0
		for i := range 150 {
			now += random.Intn(1 + n%8)
			if i == 140 && n%2 == 0 {
				now = latest - 15
			}
			name := []string{"Promote", "Renew", "Renew", "Renew", "Holds", "Holds"}[random.Intn(6)]
			if name == "Promote" {
				last++
			}
			fence = append(fence, varied(random, name, last, now))
			site = append(site, varied(random, []string{"Grant", "Check"}[random.Intn(2)], last, now))
		}
		playSite(t, site)
		playFence(t, 0, fence)
	}
}

// group is a fence with sites, which are granted an epoch only when the fence renewed it, at
// the same time. It has one time.
type group struct {
	fence Fence
	sites [3]Site
	now   int
	last  int // the last epoch
}

// renew lets the fence renew an epoch, and if it does, grants it to some of the sites.
func (g *group) renew(epoch int, some uint) {
	if g.fence.Renew(epoch, g.now) != nil {
		return
	}
	for i := range g.sites {
		if some>>i&1 == 1 {
			g.sites[i].Grant(epoch, g.now)
		}
	}
}

// promote begins an epoch.
func (g *group) promote() {
	if epoch, _, err := g.fence.Promote(g.now); err == nil {
		g.last = epoch
	}
}

// wantOne checks that the sites acknowledge writes of one epoch at most, and of the last one if
// it is in effect. It returns whether any of them acknowledges.
func (g *group) wantOne(t *testing.T) bool {
	t.Helper()
	found := 0
	for epoch := 0; epoch <= g.last+1; epoch++ {
		for i := range g.sites {
			if g.sites[i].Check(epoch, g.now) != nil {
				continue
			}
			if found != 0 && epoch != found {
				t.Fatalf("at %d, writes of the epochs %d and %d are acknowledged", g.now, found, epoch)
			}
			found = epoch
		}
	}
	if in := g.fence.Holds(g.now); in != 0 && found != 0 && found != in {
		t.Fatalf("at %d, writes of epoch %d are acknowledged, while %d is in effect", g.now, found, in)
	}
	return found != 0
}

// P16.3: all short orders of promotions, renewals and grants, with those times between them
// that matter.
func TestAtMostOne(t *testing.T) {
	var next func(g group, n int)
	acknowledged := 0
	next = func(g group, n int) {
		if g.wantOne(t) {
			acknowledged++
		}
		if n == 0 {
			return
		}
		for _, ticks := range []int{1, 9, 10} {
			h := g
			h.now += ticks
			next(h, n-1)
		}
		h := g
		h.promote()
		next(h, n-1)
		for epoch := max(g.last-1, 1); epoch <= g.last; epoch++ {
			for _, some := range []uint{1, 2, 0} {
				h := g
				h.renew(epoch, some)
				next(h, n-1)
			}
		}
	}
	next(group{}, 6)
	if acknowledged == 0 {
		t.Fatal("nothing is ever acknowledged")
	}
}

// P16.3: long random orders. Behind each promotion, no earlier epoch is acknowledged once the
// new one is in effect, even if no site has heard of it.
func TestAtMostOneLong(t *testing.T) {
	random := rand.New(rand.NewSource(163))
	acknowledged, silent := 0, 0
	for n := range 300 {
		var g group
		for range 200 {
			switch random.Intn(8) {
			case 0:
				g.promote()
			case 1, 2:
				g.renew(g.last, uint(random.Intn(8)))
			case 3:
				g.renew(1+random.Intn(g.last+1), uint(random.Intn(8)))
			default:
				g.now += random.Intn(1 + n%7)
			}
			if g.wantOne(t) {
				acknowledged++
			} else {
				silent++
			}
		}
	}
	if acknowledged == 0 || silent == 0 {
		t.Fatalf("acknowledged %d times, silent %d times: the orders say little", acknowledged, silent)
	}
}
