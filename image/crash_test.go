package image

import (
	"bytes"
	"math"
	"math/rand"
	"strconv"
	"testing"

	"isobar/disk"
)

// keeps are choices of so many unflushed writes that survive: none, all, each one alone,
// each one lost alone, the first ones, the last ones, every other one, and some others.
func keeps(loose int, random *rand.Rand) []uint64 {
	l := []uint64{0, math.MaxUint64, 0x5555555555555555, 0xaaaaaaaaaaaaaaaa}
	for k := range loose {
		l = append(l, 1<<k, ^uint64(1<<k), 1<<k-1, math.MaxUint64<<k)
	}
	return append(l, random.Uint64(), random.Uint64())
}

// history is an image beside what P14.3 says of it. Each update has blocks of its own, so
// that none is taken for another one's.
type history struct {
	t      *testing.T
	d      *disk.Disk
	m      *Image
	blocks Blocks
	mark   int
	next   Blocks
	newer  int // the marker of the update in progress, 0 without one
	done   int // how many steps of it were performed
	turn   int
	made   int
	over   int // how many updates weren't cut off
}

func start(t *testing.T) *history {
	t.Helper()
	d := disk.New(66)
	return &history{t: t, d: d, m: opened(t, d)}
}

// check holds the image against the history, without opening it again.
func (h *history) check() {
	h.t.Helper()
	wantImage(h.t, h.m, h.blocks, h.mark)
	if h.m.Busy() != (h.newer > 0) {
		h.t.Fatalf("Busy = %v, with %d as the marker of the update", h.m.Busy(), h.newer)
	}
}

// begin begins an update, if none is in progress.
func (h *history) begin(more int) {
	h.t.Helper()
	if h.newer > 0 {
		return
	}
	h.made++
	h.next, h.newer, h.done = allOf(strconv.Itoa(h.made)+":"), h.mark+more, 0
	begin(h.t, h.m, h.next, h.newer)
}

// to performs the steps of the update in progress that come ahead of the one with the
// number n.
func (h *history) to(n int) {
	h.t.Helper()
	for h.newer > 0 && h.done < n {
		advance(h.t, h.m, 1, h.done == 34)
		h.done++
		if h.done == 35 {
			h.finish()
			h.over++
		}
	}
}

// finish makes the update's blocks those of the image.
func (h *history) finish() {
	h.blocks, h.mark = h.next, h.newer
	h.newer, h.done = 0, 0
	h.turn++
}

// crash crashes the disk, and opens the image again. It has the new blocks if the head was
// written and survives, and the old ones otherwise.
func (h *history) crash(keep uint64) {
	h.t.Helper()
	h.d.Crash(keep)
	if h.newer > 0 && h.done == 34 && keep&1 == 1 {
		h.finish()
	}
	h.reopen()
}

// reopen opens the image again, behind a crash or where no head is unflushed.
func (h *history) reopen() {
	h.t.Helper()
	was := h.m.Mark()
	h.newer, h.done = 0, 0
	h.m = opened(h.t, h.d)
	if h.m.Mark() < was {
		h.t.Fatalf("the marker decreased from %d to %d", was, h.m.Mark())
	}
	h.check()
}

// prepared returns a history behind so many whole updates.
func prepared(t *testing.T, updates int) *history {
	t.Helper()
	h := start(t)
	for range updates {
		h.begin(3)
		h.to(35)
	}
	return h
}

// P14.3: a crash after each number of steps, then another update that is cut off as well,
// and a third one that isn't. The updates begin in either area, and on a fresh disk.
func TestCrash(t *testing.T) {
	random := rand.New(rand.NewSource(1))
	for updates := range 3 {
		for steps := range 36 {
			alike := prepared(t, updates)
			alike.begin(1)
			alike.to(steps)
			for _, keep := range keeps(alike.d.Loose(), random) {
				h := prepared(t, updates)
				h.begin(1)
				h.to(steps)
				h.check()
				h.crash(keep)
				h.begin(2)
				h.to(random.Intn(36))
				h.crash(random.Uint64())
				h.begin(3)
				h.to(35)
				h.check()
				h.crash(0)
			}
		}
	}
}

// P14.3: two crashes with nothing and all kept, of which the second one cuts off an update
// of the area that the first one has cut off an update of.
func TestCrashTwice(t *testing.T) {
	for updates := range 3 {
		for steps := range 36 {
			for _, again := range []int{0, 1, 16, 31, 32, 33, 34} {
				for kept := range 4 {
					h := prepared(t, updates)
					h.begin(1)
					h.to(steps)
					h.crash(-uint64(kept & 1))
					h.begin(1)
					h.to(again)
					h.crash(-uint64(kept >> 1))
					h.begin(1)
					h.to(35)
					h.crash(0)
				}
			}
		}
	}
}

// P14.3: of up to eight blocks, any survive.
func TestCrashKeepsAny(t *testing.T) {
	for updates := range 2 {
		for steps := range 9 {
			for keep := range uint64(1) << steps {
				h := prepared(t, updates)
				h.begin(1)
				h.to(steps)
				h.crash(keep)
			}
		}
	}
}

// P14.3: behind the last step, and behind its flush of the blocks, nothing is left to lose.
func TestFlushed(t *testing.T) {
	h := start(t)
	for range 5 {
		h.begin(1)
		h.to(33)
		if h.d.Loose() != 0 {
			t.Fatalf("%d writes of blocks aren't flushed ahead of the head", h.d.Loose())
		}
		h.to(35)
		if h.d.Loose() != 0 {
			t.Fatalf("%d writes aren't flushed behind an update", h.d.Loose())
		}
		h.crash(0)
	}
}

// P14.3: what an update that was cut off left in the other area isn't taken for blocks of
// the next one, which has the same turn: it writes all of them again.
func TestLeftBehind(t *testing.T) {
	for _, updates := range []int{0, 1, 2} {
		for _, steps := range []int{1, 16, 31, 32, 33, 34} {
			h := prepared(t, updates)
			h.begin(1)
			h.to(steps)
			// All blocks survive, but not the head.
			keep := uint64(math.MaxUint64)
			if steps == 34 {
				keep = 0
			}
			h.crash(keep)
			h.begin(5)
			for n := range 35 {
				h.to(n + 1)
				h.check()
			}
			if got := sectorOf(t, h.d, h.turn%2); !bytes.Equal(got, headOf(updates+1, h.mark)) {
				t.Fatalf("the head is % x", got)
			}
			h.crash(0)
		}
	}
}

// step does what a letter says; false if there was nothing to do.
func (h *history) step(letter byte) bool {
	busy, done := h.newer > 0, h.done
	switch letter {
	case 'b':
		h.begin(1)
		return !busy
	case 's':
		h.to(h.done + 1)
		return busy
	case 'm':
		h.to(17)
		return busy && done < 17
	case 'w':
		h.to(32)
		return busy && done < 32
	case 'h':
		h.to(34)
		return busy && done < 34
	case 'e':
		h.to(35)
		return busy
	case 'n':
		h.crash(0)
	case 'a':
		h.crash(math.MaxUint64)
	case 'o':
		h.crash(0x5555555555555555)
	case 'r':
		if busy && done == 34 {
			return false // opening an image isn't worded for a head that may be lost still
		}
		h.reopen()
	}
	return true
}

// P14.2, P14.3: all histories of up to five steps, of which each has something to do.
func TestHistories(t *testing.T) {
	count := 0
	var extend func(steps string)
	extend = func(steps string) {
		h := start(t)
		for i := range len(steps) {
			if !h.step(steps[i]) {
				return
			}
		}
		h.check()
		h.crash(2)
		count++
		if len(steps) == 5 {
			return
		}
		for _, letter := range []byte("bsmwhenaor") {
			extend(steps + string(letter))
		}
	}
	extend("")
	if count < 5000 {
		t.Errorf("%d histories", count)
	}
}

// P14.2, P14.3: long histories.
func TestLongHistories(t *testing.T) {
	for seed := range int64(4) {
		random := rand.New(rand.NewSource(seed))
		h := start(t)
		cuts := 0
		for range 6000 {
			switch x := random.Intn(12); {
			case x < 3:
				h.begin(1 + random.Intn(300))
			case x < 8:
				h.to(h.done + 1 + random.Intn(12))
			case x < 9:
				h.to(35)
			case x < 11:
				h.step("smwh"[random.Intn(4)])
			default:
				if h.newer > 0 {
					cuts++
				}
				h.crash(random.Uint64() | random.Uint64())
			}
			h.check()
		}
		if h.over < 300 || cuts < 100 {
			t.Errorf("%d updates, and %d that were cut off", h.over, cuts)
		}
	}
}

// R6: the same calls on two fresh images give the same disk, sector by sector.
func TestSameCallsSameDisk(t *testing.T) {
	var both [2]*history
	for i := range both {
		random := rand.New(rand.NewSource(7))
		h := start(t)
		for range 500 {
			h.step("bsmwhenaor"[random.Intn(10)])
		}
		both[i] = h
	}
	wantSectors(t, both[0].d, sectorsOf(t, both[1].d), both[1].d.Loose())
	wantImage(t, both[0].m, both[1].blocks, both[1].mark)
}
