package journal

import (
	"math"
	"math/rand"
	"slices"
	"strconv"
	"testing"

	"isobar/api"
	"isobar/disk"
)

// history is a journal beside what P6.5 says of it: which records are held, and how many
// of them are durable. Each record has data of its own, so that none is taken for another.
type history struct {
	t       *testing.T
	d       *disk.Disk
	j       *Journal
	ring    int
	first   int
	held    []api.Record
	durable int
	made    int
}

func begin(t *testing.T, ring int) *history {
	t.Helper()
	d := disk.New(2 + ring)
	return &history{t: t, d: d, j: opened(t, d, ring), ring: ring, first: 1}
}

// check holds the journal against the history.
func (h *history) check() {
	h.t.Helper()
	wantHeld(h.t, h.j, h.ring, h.first, h.held...)
}

func (h *history) append() {
	h.t.Helper()
	h.made++
	r := write("r" + strconv.Itoa(h.made))
	seq := h.first + len(h.held)
	n, err := h.j.Append(r)
	if len(h.held) == h.ring {
		wantFault(h.t, err, seq, api.ErrFull)
		return
	}
	if n != seq || err != nil {
		h.t.Fatalf("Append = %d, %v, want %d", n, err, seq)
	}
	h.held = append(h.held, number(seq, r))
}

func (h *history) flush() {
	h.j.Flush()
	h.durable = len(h.held)
}

func (h *history) trim(k int) {
	h.t.Helper()
	k = min(k, len(h.held))
	if err := h.j.Trim(k); err != nil {
		h.t.Fatalf("Trim(%d) = %v", k, err)
	}
	if k > 0 {
		h.held = slices.Clone(h.held[k:])
		h.first += k
		h.durable = len(h.held)
	}
}

// reopen opens the journal again without a crash: nothing is lost.
func (h *history) reopen() {
	h.t.Helper()
	h.j = opened(h.t, h.d, h.ring)
	h.durable = len(h.held)
}

// crash loses some of the records that aren't durable, and opens the journal again. What
// stays is what was flushed, and of the others those ahead of the first one that is lost.
func (h *history) crash(keep uint64) {
	h.t.Helper()
	if h.d.Loose() != len(h.held)-h.durable {
		h.t.Fatalf("Loose = %d with %d records that aren't flushed", h.d.Loose(), len(h.held)-h.durable)
	}
	stay := h.durable
	for k := 0; stay < len(h.held) && keep>>(k%64)&1 == 1; k++ {
		stay++
	}
	h.d.Crash(keep)
	h.held = h.held[:stay:stay]
	h.reopen()
}

// P6.5: the chapter's example, and what was lost doesn't come back when its place is filled.
func TestCrashExample(t *testing.T) {
	h := begin(t, 4)
	h.append()
	h.append()
	h.flush()
	h.append()
	h.append()
	h.crash(2)
	wantHeld(t, h.j, 4, 1, writes(1, "r1", "r2")...)
	h.append()
	h.flush()
	h.crash(0)
	wantHeld(t, h.j, 4, 1, writes(1, "r1", "r2", "r5")...)
}

// P6.5: records of an earlier generation behind those of a later one: whether the later
// ones are held or dropped, the lost ones stay lost.
func TestCrashLeavesEarlierGenerations(t *testing.T) {
	h := begin(t, 4)
	for range 4 {
		h.append()
	}
	h.crash(0b1110)
	h.check()
	h.append()
	h.crash(1)
	wantHeld(t, h.j, 4, 1, writes(1, "r5")...)
	// Only the low generation tells here that 2 to 4 were lost.
	h.trim(1)
	h.reopen()
	wantHeld(t, h.j, 4, 2)
	h.append()
	h.append()
	h.crash(2)
	wantHeld(t, h.j, 4, 2)
	h.append()
	h.crash(1)
	wantHeld(t, h.j, 4, 2, writes(2, "r8")...)
}

// P6.5: a full ring of which any of the writes survive, and the same once more behind it.
func TestCrashKeepsAny(t *testing.T) {
	const ring = 5
	for flushed := range ring + 1 {
		for keep := range uint64(1) << (ring - flushed) {
			for again := range uint64(1) << ring {
				h := begin(t, ring)
				for n := range ring {
					if n == flushed {
						h.flush()
					}
					h.append()
				}
				if flushed == ring {
					h.flush()
				}
				h.crash(keep)
				h.check()
				for h.j.Room() > 0 {
					h.append()
				}
				h.crash(again)
				h.check()
			}
		}
	}
}

// step does what a letter says; false if it would do nothing that was not done before.
func (h *history) step(letter byte) bool {
	loose := len(h.held) - h.durable
	switch letter {
	case 'a':
		h.append()
	case 'f':
		h.flush()
		return loose > 0
	case 't':
		h.trim(1)
		return len(h.held) > 0
	case 'T':
		h.trim(h.ring)
	default:
		keep := uint64(letter - '0')
		h.crash(keep)
		return keep < 1<<loose
	}
	return true
}

// P6.5: all histories of up to six steps on small rings, with any of the writes surviving.
func TestCrashHistories(t *testing.T) {
	for ring := 1; ring <= 3; ring++ {
		count := 0
		var extend func(steps string)
		extend = func(steps string) {
			h := begin(t, ring)
			for i := range len(steps) {
				if !h.step(steps[i]) && i == len(steps)-1 {
					return
				}
			}
			h.check()
			h.crash(0)
			h.check()
			count++
			if len(steps) == 6 {
				return
			}
			for _, letter := range []byte("aftT01234567") {
				extend(steps + string(letter))
			}
		}
		extend("")
		if count < 1000 {
			t.Errorf("%d histories on a ring of %d", count, ring)
		}
	}
}

// P6.5: long histories on rings of many sizes; on the great ones, more than 64 writes
// aren't flushed.
func TestCrashLongHistories(t *testing.T) {
	for _, ring := range []int{1, 2, 3, 4, 7, 8, 70, 200, 512} {
		random := rand.New(rand.NewSource(int64(ring)))
		h := begin(t, ring)
		most := 0
		for range 4000 {
			switch x := random.Intn(40); {
			case x < 26:
				for range 1 + random.Intn(1+ring/3) {
					h.append()
				}
				most = max(most, h.d.Loose())
			case x < 29:
				h.flush()
			case x < 34:
				h.trim(random.Intn(ring + 1))
			case x < 35:
				h.reopen()
			default:
				// Most bits are set, so that the first lost write isn't always an early one.
				keep := random.Uint64() | random.Uint64() | random.Uint64()
				if random.Intn(4) == 0 {
					keep = math.MaxUint64 &^ (1 << random.Intn(64))
				}
				h.crash(keep)
				h.check()
				if random.Intn(3) == 0 {
					h.crash(random.Uint64())
				}
			}
			h.check()
		}
		if most < ring*3/4 && most < 64 {
			t.Errorf("at most %d unflushed writes on a ring of %d", most, ring)
		}
	}
}

// P6.5: crashes without anything unflushed, and two of them before the journal is opened.
func TestCrashOfNothing(t *testing.T) {
	h := begin(t, 3)
	h.crash(0)
	h.check()
	h.append()
	h.append()
	h.trim(1)
	for range 5 {
		h.crash(0)
		h.check()
		h.crash(math.MaxUint64)
		h.check()
	}
	h.append()
	h.append()
	h.d.Crash(2)
	h.held = h.held[:1]
	h.crash(math.MaxUint64)
	h.check()
}
