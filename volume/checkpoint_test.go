package volume

import (
	"math"
	"math/rand"
	"strconv"
	"testing"

	"isobar/api"
	"isobar/disk"
)

// checkpoint calls Checkpoint where it may be called, and checks that all is durable then
// and that the contents of the blocks are the same.
func checkpoint(t *testing.T, d *disk.Disk, v *Volume, upto int) {
	t.Helper()
	before := read8(t, v)
	if err := v.Checkpoint(upto); err != nil {
		t.Fatalf("Checkpoint(%d) = %v", upto, err)
	}
	if d.Loose() != 0 {
		t.Fatalf("Loose = %d behind a checkpoint", d.Loose())
	}
	if got := read8(t, v); got != before {
		t.Fatalf("a checkpoint made %q of %q", got, before)
	}
}

// example has two writes of block 0, and one each of blocks 1 and 7, amid which are markers.
func example(t *testing.T) (*disk.Disk, *Volume, []api.Record) {
	t.Helper()
	d, v := begin(t, 8)
	all := []api.Record{
		write(1, 0, "a"), write(2, 1, "b"), mark(3, 9), write(4, 0, "c"), write(5, 7, full), mark(6, 10),
	}
	for i, r := range all {
		n, err := v.Mark(r.Number)
		if r.Kind == api.Write {
			n, err = v.Write(r.Block, r.Data)
		}
		if n != i+1 || err != nil {
			t.Fatalf("%d, %v, want %d", n, err, i+1)
		}
	}
	return d, v, all
}

// P11.3: numbers that a checkpoint may not have; nothing is changed by them, or flushed.
func TestCheckpointErrors(t *testing.T) {
	d, v := begin(t, 4)
	for n := range 5 {
		same := unchanged(t, d, v)
		next := v.Next()
		for _, upto := range []int{-1, -2, -next, math.MinInt, next, next + 1, next + 4, 1 << 32, top, math.MaxInt} {
			wantError(t, v.Checkpoint(upto), upto, api.ErrRange)
		}
		same()
		if d.Loose() != n {
			t.Fatalf("Loose = %d, want %d", d.Loose(), n)
		}
		if n < 4 {
			put(t, d, v, 4, n, "a")
		}
	}
}

// P11.3: a checkpoint of a volume that was never written: 0 is below Next.
func TestCheckpointOfNothing(t *testing.T) {
	d, v := begin(t, 4)
	same := unchanged(t, d, v)
	for range 3 {
		checkpoint(t, d, v, 0)
		same()
	}
	wantError(t, v.Checkpoint(1), 1, api.ErrRange)
}

// P11.3: a checkpoint of 0 and of each number up to Next less one: all blocks go home, and
// only the records up to that number are dropped.
func TestCheckpoint(t *testing.T) {
	for upto := range 7 {
		d, v, all := example(t)
		after := sectors(t, d)
		after[10+0] = homeOf(4, 0, "c")
		after[10+1] = homeOf(2, 1, "b")
		after[10+7] = homeOf(5, 7, full)
		if upto > 0 {
			after[0] = headOf(2, 1+upto, 1, 1)
		}
		checkpoint(t, d, v, upto)
		want := map[int]string{0: "c", 1: "b", 7: full}
		for range 2 {
			wantSectors(t, d, after, 0)
			wantHeld(t, v, 7, all[upto:]...)
			wantBlocks(t, v, want)
			d.Crash(0)
		}
		v = opened(t, d, 8)
		wantHeld(t, v, 7, all[upto:]...)
		wantBlocks(t, v, want)
		put(t, d, v, 8, 1, "d")
		wantBlocks(t, v, map[int]string{0: "c", 1: "d", 7: full})
	}
}

// P11.3: twice in a row, and once more of less: nothing is written, not even a head.
func TestCheckpointAgain(t *testing.T) {
	for upto := range 7 {
		d, v, all := example(t)
		checkpoint(t, d, v, upto)
		same := unchanged(t, d, v)
		for less := upto; less >= 0; less-- {
			checkpoint(t, d, v, less)
			same()
		}
		for more := upto + 1; more < 7; more++ {
			checkpoint(t, d, v, more)
			wantHeld(t, v, 7, all[more:]...)
		}
		wantError(t, v.Checkpoint(7), 7, api.ErrRange)
		wantHeld(t, v, 7)
		wantBlocks(t, opened(t, d, 8), map[int]string{0: "c", 1: "b", 7: full})
	}
}

// P11.3: what isn't flushed is made durable by a checkpoint, even by one that drops nothing
// and has nothing to bring home.
func TestCheckpointFlushes(t *testing.T) {
	d, v := begin(t, 4)
	if _, err := v.Mark(5); err != nil {
		t.Fatal(err)
	}
	after := sectors(t, d)
	checkpoint(t, d, v, 0)
	d.Crash(0)
	wantSectors(t, d, after, 0)
	wantHeld(t, opened(t, d, 4), 2, mark(1, 5))
}

// P11.3: only the blocks that were written since are brought home again.
func TestCheckpointLeavesHomes(t *testing.T) {
	d, v := begin(t, 4)
	for n := range 3 {
		put(t, d, v, 4, n, "a")
	}
	checkpoint(t, d, v, 3)
	put(t, d, v, 4, 1, "")
	put(t, d, v, 4, 3, "b")
	checkpoint(t, d, v, 4)
	for block, want := range [][]byte{homeOf(1, 0, "a"), homeOf(4, 1, ""), homeOf(3, 2, "a"), homeOf(5, 3, "b"), fresh, fresh, fresh, fresh} {
		wantHome(t, d, 4, block, want)
	}
	wantHeld(t, v, 6, write(5, 3, "b"))
	put(t, d, v, 4, 3, "b")
	checkpoint(t, d, v, 0)
	wantHome(t, d, 4, 3, homeOf(6, 3, "b"))
	wantHeld(t, v, 7, write(5, 3, "b"), write(6, 3, "b"))
	want := map[int]string{0: "a", 2: "a", 3: "b"}
	wantBlocks(t, v, want)
	wantBlocks(t, opened(t, d, 4), want)
}

// P11.3: a write of no data, of the last block: its home isn't zero, and still empty.
func TestCheckpointOfNoData(t *testing.T) {
	d, v := begin(t, 4)
	put(t, d, v, 4, 7, "")
	checkpoint(t, d, v, 1)
	wantHome(t, d, 4, 7, homeOf(1, 7, ""))
	wantHeld(t, v, 2)
	wantBlocks(t, v, nil)
	wantBlocks(t, opened(t, d, 4), nil)
}

// P11.3: sectors behind those of the volume are left alone, also with the greatest ring.
func TestCheckpointOfGreatRing(t *testing.T) {
	d := disk.New(api.MaxSectors)
	for i := Sectors(512); i < d.Len(); i++ {
		lay(t, d, i, sealed("other"))
	}
	v := opened(t, d, 512)
	for n := range 512 {
		if _, err := v.Write(n%8, strconv.Itoa(n)); err != nil {
			t.Fatal(err)
		}
	}
	after := sectors(t, d)
	want := map[int]string{}
	for block := range 8 {
		want[block] = strconv.Itoa(504 + block)
		after[514+block] = homeOf(505+block, block, want[block])
	}
	after[0] = headOf(2, 512, 1, 1)
	checkpoint(t, d, v, 511)
	wantSectors(t, d, after, 0)
	wantHeld(t, v, 513, write(512, 7, "511"))
	wantBlocks(t, v, want)
	wantBlocks(t, opened(t, d, 512), want)
}

// The words: records up to the number of a home sector don't count, whatever they contain.
func TestHomesBeforeRecords(t *testing.T) {
	cases := []struct {
		home int
		want string
		last int // the number in the home sector behind a checkpoint
	}{{1, "c", 3}, {2, "c", 3}, {3, "home", 3}, {4, "home", 4}, {100, "home", 100}, {top, "home", top}}
	for _, c := range cases {
		d := disk.New(Sectors(4))
		lay(t, d, 0, headOf(0, 1, 1, 0))
		layRecord(t, d, 4, write(1, 2, "a"))
		layRecord(t, d, 4, write(2, 2, "b"))
		layRecord(t, d, 4, write(3, 2, "c"))
		layHome(t, d, 4, 2, homeOf(c.home, 2, "home"))
		v := opened(t, d, 4)
		wantBlocks(t, v, map[int]string{2: c.want})
		checkpoint(t, d, v, 2)
		wantHome(t, d, 4, 2, homeOf(c.last, 2, c.want))
		wantHeld(t, v, 4, write(3, 2, "c"))
		wantBlocks(t, opened(t, d, 4), map[int]string{2: c.want})
		put(t, d, v, 4, 2, "e")
		if c.last >= 4 {
			wantBlocks(t, v, map[int]string{2: "home"})
		} else {
			wantBlocks(t, v, map[int]string{2: "e"})
		}
	}
}

// homeRecord is what the words say of a block: a number and data.
type homeRecord struct {
	seq  int
	data string
}

// wording returns the contents of a block as the chapter words them.
func wording(records []api.Record, block int, home homeRecord) homeRecord {
	for i := len(records) - 1; i >= 0; i-- {
		if r := records[i]; r.Kind == 1 && r.Block == block && r.Seq > home.seq {
			return homeRecord{r.Seq, r.Data}
		}
	}
	return home
}

// The words, P11.3: volumes of all kinds, made of a few records and homes.
func TestWording(t *testing.T) {
	random := rand.New(rand.NewSource(1))
	fromHome, fromRecord := 0, 0
	for range 5000 {
		ring := 1 + random.Intn(6)
		first := 1 + random.Intn(9)
		d := disk.New(Sectors(ring))
		lay(t, d, 0, headOf(0, first, 1, 1))
		var records []api.Record
		for seq := first; seq < first+random.Intn(ring+1); seq++ {
			r := write(seq, random.Intn(3), "r"+strconv.Itoa(seq))
			if random.Intn(4) == 0 {
				r = mark(seq, seq)
			}
			layRecord(t, d, ring, r)
			records = append(records, r)
		}
		var homes [8]homeRecord
		for block := range 4 {
			if seq := random.Intn(16); seq > 0 {
				homes[block] = homeRecord{seq, "h" + strconv.Itoa(seq)}
				layHome(t, d, ring, block, homeOf(seq, block, homes[block].data))
			}
		}
		v := opened(t, d, ring)
		next := first + len(records)
		upto := random.Intn(next)
		after := sectors(t, d)
		var want [8]string
		for block, home := range homes {
			now := wording(records, block, home)
			want[block] = now.data
			if now != home {
				after[2+ring+block] = homeOf(now.seq, block, now.data)
				fromRecord++
			} else if now.seq > 0 {
				fromHome++
			}
		}
		if got := read8(t, v); got != want {
			t.Fatalf("blocks are %q, want %q, of %v and %v", got, want, records, homes)
		}
		if k := upto - first + 1; k > 0 {
			records = records[k:]
			after[0] = headOf(2, first+k, 2, 1)
		}
		checkpoint(t, d, v, upto)
		wantSectors(t, d, after, 0)
		wantHeld(t, v, next, records...)
	}
	if fromHome < 1000 || fromRecord < 1000 {
		t.Errorf("%d contents from homes, %d from records", fromHome, fromRecord)
	}
}
