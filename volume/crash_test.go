package volume

import (
	"bytes"
	"math"
	"math/rand"
	"strconv"
	"testing"

	"isobar/api"
	"isobar/disk"
)

// history is a volume beside what P11.4 says of it: its blocks are the result of the
// writes that weren't lost, in order. Each write has data of its own, so that none is
// taken for another.
type history struct {
	t       *testing.T
	d       *disk.Disk
	v       *Volume
	ring    int
	all     []api.Record // what wasn't lost, from number 1 on, dropped or not
	dropped int          // how many of them were dropped
	durable int          // how many of them are durable
	homes   [8]int       // the number in each home sector, 0 if it is all zero
	made    int
}

func start(t *testing.T, ring int) *history {
	t.Helper()
	d, v := begin(t, ring)
	return &history{t: t, d: d, v: v, ring: ring}
}

// last returns, for each block, the number of the last record that wrote it, or 0.
func (h *history) last() (seqs [8]int) {
	for _, r := range h.all {
		if r.Kind == api.Write {
			seqs[r.Block] = r.Seq
		}
	}
	return seqs
}

// check holds the volume and its home sectors against the history.
func (h *history) check() {
	h.t.Helper()
	wantHeld(h.t, h.v, len(h.all)+1, h.all[h.dropped:]...)
	if h.d.Loose() != len(h.all)-h.durable {
		h.t.Fatalf("Loose = %d, with %d records that aren't durable", h.d.Loose(), len(h.all)-h.durable)
	}
	last, blocks := h.last(), read8(h.t, h.v)
	for block, seq := range last {
		want := ""
		if seq > 0 {
			want = h.all[seq-1].Data
		}
		if blocks[block] != want {
			h.t.Fatalf("block %d is %q, want %q: behind %v", block, blocks[block], want, h.all)
		}
		home := fresh
		if at := h.homes[block]; at > 0 {
			home = homeOf(at, block, h.all[at-1].Data)
		}
		wantHome(h.t, h.d, h.ring, block, home)
	}
}

// add writes a block, or marks for a block -1.
func (h *history) add(block int) {
	h.t.Helper()
	h.made++
	seq, at := len(h.all)+1, h.made
	r := mark(seq, h.made)
	call := func() (int, error) { return h.v.Mark(h.made) }
	if block >= 0 {
		r, at = write(seq, block, "w"+strconv.Itoa(h.made)), block
		call = func() (int, error) { return h.v.Write(block, r.Data) }
	}
	n, err := call()
	if len(h.all)-h.dropped == h.ring {
		wantInner(h.t, err, at, seq, api.ErrFull)
		wantNone(h.t, n)
		return
	}
	if n != seq || err != nil {
		h.t.Fatalf("%d, %v, want %d", n, err, seq)
	}
	h.all = append(h.all, r)
}

func (h *history) flush() {
	h.v.Flush()
	h.durable = len(h.all)
}

func (h *history) checkpoint(upto int) {
	h.t.Helper()
	checkpoint(h.t, h.d, h.v, upto)
	h.homes, h.durable, h.dropped = h.last(), len(h.all), max(h.dropped, upto)
}

// reopen opens the volume again without a crash: nothing is lost.
func (h *history) reopen() {
	h.t.Helper()
	h.v = opened(h.t, h.d, h.ring)
	h.durable = len(h.all)
}

// crash loses some of the records that aren't durable, and opens the volume again. What
// stays is what was flushed, and of the others those ahead of the first one that is lost.
func (h *history) crash(keep uint64) {
	h.t.Helper()
	stay := h.durable
	for k := 0; stay < len(h.all) && keep>>(k%64)&1 == 1; k++ {
		stay++
	}
	h.d.Crash(keep)
	h.all = h.all[:stay:stay]
	h.reopen()
}

// P11.4: the chapter's example.
func TestCrashExample(t *testing.T) {
	d, v := begin(t, 4)
	put(t, d, v, 4, 0, "a")
	v.Flush()
	put(t, d, v, 4, 0, "b")
	put(t, d, v, 4, 1, "c")
	d.Crash(2)
	v = opened(t, d, 4)
	wantBlocks(t, v, map[int]string{0: "a"})
	wantHeld(t, v, 2, write(1, 0, "a"))
}

// P11.4: of three writes behind one that was flushed, each choice survives.
func TestCrash(t *testing.T) {
	wants := [...]map[int]string{
		{0: "a"}, {0: "b"}, {0: "a"}, {0: "b", 1: "c"}, {0: "a"}, {0: "b"}, {0: "a"}, {0: "d", 1: "c"},
	}
	for keep, want := range wants {
		for _, home := range []bool{false, true} {
			d, v := begin(t, 4)
			put(t, d, v, 4, 0, "a")
			v.Flush()
			if home {
				checkpoint(t, d, v, 1)
			}
			put(t, d, v, 4, 0, "b")
			put(t, d, v, 4, 1, "c")
			put(t, d, v, 4, 0, "d")
			d.Crash(uint64(keep))
			v = opened(t, d, 4)
			wantBlocks(t, v, want)
			checkpoint(t, d, v, v.Next()-1)
			d.Crash(0)
			wantBlocks(t, opened(t, d, 4), want)
		}
	}
}

// P11.4: what was lost doesn't come back when its place is filled, or when the records
// ahead of it are dropped.
func TestLostStaysLost(t *testing.T) {
	h := start(t, 4)
	for block := range 4 {
		h.add(block)
	}
	h.crash(0b1101)
	h.check()
	h.add(7)
	h.checkpoint(2)
	h.check()
	h.crash(0)
	h.check()
	wantBlocks(t, h.v, map[int]string{0: "w1", 7: "w5"})
	wantHeld(t, h.v, 3)
}

// P11.4: a crash behind a checkpoint loses nothing of what went home, and of what was
// written since only the end.
func TestCrashBehindCheckpoint(t *testing.T) {
	for upto := range 4 {
		for keep := range uint64(8) {
			h := start(t, 6)
			h.add(0)
			h.add(1)
			h.add(0)
			h.checkpoint(upto)
			h.check()
			h.add(0)
			h.add(2)
			h.add(1)
			h.crash(keep)
			h.check()
			h.checkpoint(len(h.all))
			h.check()
			h.crash(0)
			h.check()
		}
	}
}

// P11.4: a volume full of writes of all blocks, of which any survive, twice.
func TestCrashKeepsAny(t *testing.T) {
	const ring = 5
	for flushed := range ring + 1 {
		for keep := range uint64(1) << (ring - flushed) {
			for again := range uint64(1) << ring {
				h := start(t, ring)
				for n := range ring {
					if n == flushed {
						h.flush()
					}
					h.add(n % 3)
				}
				if flushed == ring {
					h.flush()
				}
				h.crash(keep)
				h.check()
				h.checkpoint(len(h.all))
				for len(h.all)-h.dropped < ring {
					h.add(len(h.all) % 4)
				}
				h.crash(again)
				h.check()
			}
		}
	}
}

// step does what a letter says; false if it would do nothing that was not done before.
func (h *history) step(letter byte) bool {
	loose := len(h.all) - h.durable
	switch letter {
	case 'a':
		h.add(0)
	case 'b':
		h.add(7)
	case 'm':
		h.add(-1)
	case 'f':
		h.flush()
		return loose > 0
	case 'c':
		h.checkpoint(len(h.all))
	case 'd':
		h.checkpoint(min(h.dropped+1, len(h.all)))
		return len(h.all)-h.dropped > 0
	case 'z':
		h.checkpoint(0)
	default:
		keep := uint64(letter - '0')
		h.crash(keep)
		return keep < 1<<loose
	}
	return true
}

// P11.3, P11.4: all histories of up to five steps on small rings, with any of the writes
// surviving.
func TestHistories(t *testing.T) {
	for ring := 1; ring <= 3; ring++ {
		count := 0
		var extend func(steps string)
		extend = func(steps string) {
			h := start(t, ring)
			for i := range len(steps) {
				if !h.step(steps[i]) && i == len(steps)-1 {
					return
				}
			}
			h.check()
			h.crash(0)
			h.check()
			count++
			if len(steps) == 5 {
				return
			}
			for _, letter := range []byte("abmfcdz01234567") {
				extend(steps + string(letter))
			}
		}
		extend("")
		if count < 10000 {
			t.Errorf("%d histories on a ring of %d", count, ring)
		}
	}
}

// P11.3, P11.4: long histories on rings of many sizes; on the great ones, more than 64
// writes aren't flushed.
func TestLongHistories(t *testing.T) {
	for _, ring := range []int{1, 2, 3, 4, 7, 8, 70, 200, 512} {
		random := rand.New(rand.NewSource(int64(ring)))
		h := start(t, ring)
		most := 0
		for range 1500 {
			switch x := random.Intn(40); {
			case x < 26:
				for range 1 + random.Intn(1+ring/3) {
					h.add(random.Intn(9) - 1)
				}
				most = max(most, h.d.Loose())
			case x < 29:
				h.flush()
			case x < 34:
				// At times it's of less than was dropped before.
				h.checkpoint(max(len(h.all)-random.Intn(ring+3), 0))
			case x < 35:
				h.reopen()
			default:
				// Most bits are set, so that the first lost write isn't always an early one.
				keep := random.Uint64() | random.Uint64() | random.Uint64()
				if random.Intn(4) == 0 {
					keep = math.MaxUint64 &^ (1 << random.Intn(64))
				}
				h.crash(keep)
			}
			h.check()
		}
		if most < ring*3/4 && most < 64 {
			t.Errorf("at most %d unflushed writes on a ring of %d", most, ring)
		}
		if len(h.all) < 40*min(ring, 25) {
			t.Errorf("only %d records on a ring of %d", len(h.all), ring)
		}
	}
}

// P11.4: a volume whose checkpoint was cut off by a crash, home sectors being durable but
// nothing dropped: its contents are the same.
func TestCrashAmidCheckpoint(t *testing.T) {
	for homes := range 1 << 3 {
		h := start(t, 4)
		h.add(0)
		h.add(1)
		h.add(0)
		h.add(2)
		h.flush()
		for block, seq := range []int{3, 2, 4} {
			if homes>>block&1 == 1 {
				layHome(t, h.d, 4, block, homeOf(seq, block, h.all[seq-1].Data))
				h.homes[block] = seq
			}
		}
		h.reopen()
		h.check()
		h.checkpoint(3)
		h.check()
		h.crash(0)
		h.check()
	}
}

// R6: the same calls on two fresh volumes give the same disk, sector by sector.
func TestSameCallsSameDisk(t *testing.T) {
	var disks [2]*history
	for i := range disks {
		random := rand.New(rand.NewSource(7))
		h := start(t, 6)
		for range 300 {
			h.step("abmfcdz01234567"[random.Intn(15)])
		}
		disks[i] = h
	}
	for i := range disks[0].d.Len() {
		if !bytes.Equal(sector(t, disks[0].d, i), sector(t, disks[1].d, i)) {
			t.Errorf("sector %d differs", i)
		}
	}
}
