package image

import (
	"bytes"
	"encoding/binary"
	"errors"
	"hash/crc32"
	"math"
	"math/rand"
	"strconv"
	"strings"
	"testing"

	"isobar/api"
	"isobar/disk"
	"isobar/fault"
)

// top is the greatest number, as chapter 1 words it.
const top = 1<<60 - 1

// full is data of as many bytes as a block has.
const full = "0123456789abcdef"

// fresh is a sector that was never written.
var fresh = make([]byte, api.SectorLen)

// sealed returns the sector that begins with these bytes, by Go's own checksum.
func sealed(body string) []byte {
	b := make([]byte, 60, 64)
	if copy(b, body) != len(body) {
		panic("a body that is longer than a sector")
	}
	c := crc32.Checksum(b, crc32.MakeTable(crc32.Castagnoli))
	return binary.LittleEndian.AppendUint32(b, c)
}

// numbers returns the encodings of numbers, by Go's own varints.
func numbers(ns ...int) string {
	var b []byte
	for _, n := range ns {
		b = binary.AppendUvarint(b, uint64(n))
	}
	return string(b)
}

// headOf returns a head as the chapter words it.
func headOf(turn, mark int) []byte {
	return sealed(numbers(turn, mark))
}

// blockOf returns a block in an area as the chapter words it.
func blockOf(turn int, data string) []byte {
	return sealed(numbers(turn, len(data)) + data)
}

// placeOf returns the sector of a block in an area, as the chapter words it.
func placeOf(area, v, b int) int {
	return 2 + area*32 + v*8 + b
}

// lay makes b the flushed contents of sector i.
func lay(t *testing.T, d *disk.Disk, i int, b []byte) {
	t.Helper()
	if err := d.Write(i, b); err != nil {
		t.Fatal(err)
	}
	d.Flush()
}

// layBlocks lays all blocks of a turn where they belong.
func layBlocks(t *testing.T, d *disk.Disk, turn int, all Blocks) {
	t.Helper()
	for v := range 4 {
		for b := range 8 {
			lay(t, d, placeOf(turn%2, v, b), blockOf(turn, all[v][b]))
		}
	}
}

// laid returns a disk with blocks and the head of a turn.
func laid(t *testing.T, turn, mark int, all Blocks) *disk.Disk {
	t.Helper()
	d := disk.New(66)
	lay(t, d, turn%2, headOf(turn, mark))
	layBlocks(t, d, turn, all)
	return d
}

// allOf returns blocks that have data of their own each, which begin with a name.
func allOf(name string) (all Blocks) {
	for v := range all {
		for b := range all[v] {
			all[v][b] = name + strconv.Itoa(v) + "." + strconv.Itoa(b)
		}
	}
	return all
}

// with returns all with other data of one block.
func with(all Blocks, v, b int, data string) Blocks {
	all[v][b] = data
	return all
}

// sectorOf returns the current contents of sector i.
func sectorOf(t *testing.T, d *disk.Disk, i int) []byte {
	t.Helper()
	b, err := d.Read(i)
	if err != nil {
		t.Fatal(err)
	}
	return b
}

// sectorsOf returns the current contents of all sectors.
func sectorsOf(t *testing.T, d *disk.Disk) [][]byte {
	t.Helper()
	var all [][]byte
	for i := range d.Len() {
		all = append(all, sectorOf(t, d, i))
	}
	return all
}

// wantSectors checks the current contents of all sectors, and how many writes of them
// aren't flushed.
func wantSectors(t *testing.T, d *disk.Disk, want [][]byte, loose int) {
	t.Helper()
	if d.Loose() != loose || d.Len() != len(want) {
		t.Fatalf("Loose = %d, Len = %d, want %d, %d", d.Loose(), d.Len(), loose, len(want))
	}
	for i, b := range sectorsOf(t, d) {
		if !bytes.Equal(b, want[i]) {
			t.Fatalf("sector %d: % x, want % x", i, b, want[i])
		}
	}
}

// wantError checks that err is the fault image, at, directly around e.
func wantError(t *testing.T, err error, at int, e api.Errno) {
	t.Helper()
	f, ok := err.(*fault.Fault)
	if !ok || f == nil || f.Op != "image" || f.At != at || f.Err != error(e) {
		t.Fatalf("got %v, want the fault image, %d, around %v", err, at, e)
	}
	if fault.Code(err) != e || !errors.Is(err, e) {
		t.Fatalf("%v doesn't have the code %v", err, e)
	}
}

// opened opens an image that can be opened, and checks that this changes nothing.
func opened(t *testing.T, d *disk.Disk) *Image {
	t.Helper()
	before, loose := sectorsOf(t, d), d.Loose()
	m, err := Open(d)
	if err != nil || m == nil {
		t.Fatalf("Open = %v, %v", m, err)
	}
	wantSectors(t, d, before, loose)
	if m.Busy() {
		t.Fatal("Busy behind Open")
	}
	return m
}

// unopened checks that an image can't be opened, and that this changes nothing.
func unopened(t *testing.T, d *disk.Disk, e api.Errno) {
	t.Helper()
	before, loose := sectorsOf(t, d), d.Loose()
	m, err := Open(d)
	if m != nil {
		t.Fatalf("Open = %v, %v", m, err)
	}
	wantError(t, err, 0, e)
	wantSectors(t, d, before, loose)
}

// wantImage checks the blocks and the marker.
func wantImage(t *testing.T, m *Image, all Blocks, mark int) {
	t.Helper()
	if m.Mark() != mark || m.Blocks() != all {
		t.Fatalf("marker %d, blocks %q, want %d, %q", m.Mark(), m.Blocks(), mark, all)
	}
}

// begin begins an update that can be begun.
func begin(t *testing.T, m *Image, all Blocks, mark int) {
	t.Helper()
	if err := m.Begin(all, mark); err != nil {
		t.Fatalf("Begin(.., %d) = %v", mark, err)
	}
	if !m.Busy() {
		t.Fatal("not Busy behind Begin")
	}
}

// advance performs steps, of which the last one is reported as the last if last says so, and
// the others aren't.
func advance(t *testing.T, m *Image, steps int, last bool) {
	t.Helper()
	for n := range steps {
		if end, err := m.Step(); err != nil || end != (last && n == steps-1) {
			t.Fatalf("Step = %v, %v, as %d of %d", end, err, n+1, steps)
		}
	}
}

// update performs a whole update.
func update(t *testing.T, m *Image, all Blocks, mark int) {
	t.Helper()
	begin(t, m, all, mark)
	advance(t, m, 35, true)
	if m.Busy() {
		t.Fatal("Busy behind an update")
	}
	wantImage(t, m, all, mark)
}

// refused checks that Begin returns an error, and that this changes nothing: not what is on
// the disk, nor the update in progress, which goes on as if it wasn't called.
func refused(t *testing.T, d *disk.Disk, m *Image, all Blocks, mark int, e api.Errno) {
	t.Helper()
	before, loose := sectorsOf(t, d), d.Loose()
	blocks, was, busy := m.Blocks(), m.Mark(), m.Busy()
	wantError(t, m.Begin(all, mark), mark, e)
	wantSectors(t, d, before, loose)
	wantImage(t, m, blocks, was)
	if m.Busy() != busy {
		t.Fatalf("Busy = %v behind an error", m.Busy())
	}
}

// idle checks that there is no update whose next step could be performed.
func idle(t *testing.T, d *disk.Disk, m *Image) {
	t.Helper()
	before, loose := sectorsOf(t, d), d.Loose()
	blocks, mark := m.Blocks(), m.Mark()
	end, err := m.Step()
	if end {
		t.Fatal("Step reports a last step beside an error")
	}
	wantError(t, err, 0, api.ErrState)
	wantSectors(t, d, before, loose)
	wantImage(t, m, blocks, mark)
	if m.Busy() {
		t.Fatal("Busy without an update")
	}
}

// P14.1
func TestSectors(t *testing.T) {
	if Sectors() != 66 {
		t.Errorf("Sectors = %d", Sectors())
	}
}

// P14.1, P14.2: the chapter's examples.
func TestExamples(t *testing.T) {
	m := opened(t, disk.New(66))
	wantImage(t, m, Blocks{}, 0)
	begin(t, m, allOf("a"), 3)
	advance(t, m, 34, false)
	advance(t, m, 1, true)
	wantImage(t, m, allOf("a"), 3)
}

// P14.1: a disk needs the sectors of an image, and may have more.
func TestOpenSize(t *testing.T) {
	var none *disk.Disk
	unopened(t, none, api.ErrArg)
	unopened(t, &disk.Disk{}, api.ErrArg)
	for n := range 66 {
		unopened(t, disk.New(n), api.ErrArg)
	}
	for _, n := range []int{66, 67, 68, 98, 128, 1023, 1024} {
		d := disk.New(n)
		m := opened(t, d)
		wantImage(t, m, Blocks{}, 0)
		update(t, m, allOf("a"), 1)
		update(t, m, allOf("b"), 2)
		for i := 66; i < n; i++ {
			if !bytes.Equal(sectorOf(t, d, i), fresh) {
				t.Fatalf("sector %d behind those of an image was written", i)
			}
		}
		wantImage(t, opened(t, d), allOf("b"), 2)
	}
}

// P14.1: ErrArg is named ahead of ErrSum.
func TestOpenSmallAndSpoilt(t *testing.T) {
	for _, n := range []int{1, 2, 65} {
		d := disk.New(n)
		lay(t, d, 0, sealed("x"))
		unopened(t, d, api.ErrArg)
		lay(t, d, 0, headOf(2, 1))
		unopened(t, d, api.ErrArg)
	}
}

// P14.1: without a head there is no current area, whatever the areas contain.
func TestOpenFresh(t *testing.T) {
	d := disk.New(66)
	for i := 2; i < 66; i++ {
		lay(t, d, i, sealed(numbers(1, 17)+"not of any block"))
	}
	wantImage(t, opened(t, d), Blocks{}, 0)
	layBlocks(t, d, 1, allOf("a"))
	layBlocks(t, d, 2, allOf("b"))
	m := opened(t, d)
	wantImage(t, m, Blocks{}, 0)
	update(t, m, allOf("c"), 1)
	// The other area, with which a fresh image begins, is area 1.
	if !bytes.Equal(sectorOf(t, d, 1), headOf(1, 1)) || !bytes.Equal(sectorOf(t, d, 0), fresh) {
		t.Error("the first update wrote another head")
	}
	wantImage(t, opened(t, d), allOf("c"), 1)
}

// P14.1: one head, of small turns and markers, and of those whose encodings are longer.
func TestOpenOneHead(t *testing.T) {
	some := []int{1, 2, 3, 127, 128, 300, 16383, 16384, 1<<32 - 1, 1 << 32, 1 << 53, top - 1, top}
	for _, turn := range some {
		for _, mark := range some {
			d := laid(t, turn, mark, allOf("a"))
			wantImage(t, opened(t, d), allOf("a"), mark)
		}
	}
}

// P14.1: of two heads, the one with the greater turn is the current one, in either sector
// and whatever the markers are.
func TestOpenTwoHeads(t *testing.T) {
	turns := [][2]int{{1, 2}, {2, 3}, {2, 1}, {3, 2}, {1, 4}, {2, 5}, {127, 128}, {128, 127}, {128, 129}, {254, 257}, {2, top}, {top, top - 1}, {top - 1, top}, {1, top - 1}}
	for _, p := range turns {
		for _, marks := range [][2]int{{3, 4}, {4, 3}, {3, 3}, {1, top}, {top, 1}} {
			d := laid(t, p[0], marks[0], allOf("a"))
			lay(t, d, p[1]%2, headOf(p[1], marks[1]))
			layBlocks(t, d, p[1], allOf("b"))
			if p[0] > p[1] {
				wantImage(t, opened(t, d), allOf("a"), marks[0])
			} else {
				wantImage(t, opened(t, d), allOf("b"), marks[1])
			}
		}
	}
}

// noHeads returns sectors that aren't heads where sector i is.
func noHeads(i int) [][]byte {
	turn := 2 + i // a turn that is right in sector i
	l := [][]byte{
		headOf(turn+1, 3), headOf(1-i, 3), // in the wrong place
		headOf(turn, 0), headOf(0, 3), headOf(0, 0),
		headOf(turn+1, 0),
		sealed(""),
		sealed("x"),
		sealed(numbers(turn)),
		sealed(numbers(turn, 3, 1)),           // a number too many
		sealed(numbers(turn, 3) + "\x00\x01"), // not filled up with zero bytes
		sealed(numbers(turn, 3) + strings.Repeat("\x00", 57) + "x"),
		sealed(string([]byte{byte(turn) | 0x80, 0, 3})), // a highest group of 0
		sealed(string([]byte{byte(turn), 0x83, 0})),
		sealed(numbers(top+1+i, 3)), // not a number, as it is too great
		sealed(numbers(turn, top+1)),
		sealed(strings.Repeat("\xff", 60)),
		sealed(numbers(turn) + strings.Repeat("\xff", 50)),
		blockOf(turn, ""),
		blockOf(turn, "abc")[:64],
		bytes.Repeat([]byte{0xff}, 64),
		append(headOf(turn, 3)[:60:60], 0, 0, 0, 0), // without a checksum
		append(headOf(turn, 3)[60:64:64], headOf(turn, 3)[:60]...),
		append(append([]byte{}, fresh[:63]...), 1),
		append([]byte{1}, fresh[:63]...),
	}
	for k := range 64 * 8 {
		b := headOf(turn, 3)
		b[k/8] ^= 1 << (k % 8)
		l = append(l, b)
	}
	return l
}

// isHead reports whether b is a head where sector i is, of a small turn and marker.
func isHead(b []byte, i int) bool {
	for turn := 1; turn < 6; turn++ {
		for mark := 1; mark < 10; mark++ {
			if turn%2 == i && bytes.Equal(b, headOf(turn, mark)) {
				return true
			}
		}
	}
	return false
}

// P14.1: a sector that doesn't contain a head, beside one that is all zero, one that doesn't
// either, and one that does.
func TestOpenNoHead(t *testing.T) {
	for i := range 2 {
		good := 3 - i // a turn that is right in the other sector
		for _, b := range noHeads(i) {
			d := disk.New(66)
			layBlocks(t, d, 2, allOf("a"))
			layBlocks(t, d, 3, allOf("b"))
			lay(t, d, i, b)
			unopened(t, d, api.ErrSum)
			for _, other := range [][]byte{sealed("x"), sealed(""), headOf(2+i, 9), headOf(good, 0), b} {
				if isHead(other, 1-i) {
					continue // it was wrong only in sector i
				}
				lay(t, d, 1-i, other)
				unopened(t, d, api.ErrSum)
			}
			lay(t, d, 1-i, headOf(good, 9))
			want := allOf("a")
			if good == 3 {
				want = allOf("b")
			}
			m := opened(t, d)
			wantImage(t, m, want, 9)
			// The next update goes where there was no head.
			update(t, m, allOf("c"), 10)
			if !bytes.Equal(sectorOf(t, d, i), headOf(good+1, 10)) {
				t.Fatal("the next head isn't where there was none")
			}
			wantImage(t, opened(t, d), allOf("c"), 10)
		}
	}
}

// noBlocks returns sectors that aren't blocks of a turn.
func noBlocks(turn int) [][]byte {
	l := [][]byte{
		fresh,
		blockOf(turn-1, "a"), blockOf(turn+1, "a"), blockOf(turn+2, "a"), blockOf(turn-2, ""), blockOf(0, "a"),
		blockOf(turn, full+"g"),
		blockOf(turn, full+full),
		sealed(""),
		sealed("x"),
		sealed(numbers(turn, 3) + "ab\x00\x00\x01"),
		sealed(numbers(turn, 3) + "abcd"), // a byte behind the data
		sealed(numbers(turn, 1, 0) + "a"),
		sealed(numbers(turn, 300)),
		sealed(numbers(turn, top)),
		sealed(numbers(turn, top+1)),
		sealed(numbers(turn) + strings.Repeat("\xff", 40)),
		sealed(strings.Repeat("\xff", 60)),
		sealed(string([]byte{byte(turn) | 0x80, 0, 1, 'a'})), // a highest group of 0
		sealed(string([]byte{byte(turn), 0x81, 0, 'a'})),
		sealed(numbers(top+1, 1) + "a"),
		bytes.Repeat([]byte{0xff}, 64),
		append(blockOf(turn, "a")[:60:60], 0, 0, 0, 0),
	}
	for k := range 64 * 8 {
		b := blockOf(turn, "abc")
		b[k/8] ^= 1 << (k % 8)
		l = append(l, b)
	}
	return l
}

// P14.1: a sector of the current area that isn't a block with the turn of the current head;
// in the other area it doesn't matter.
func TestOpenSpoiltBlock(t *testing.T) {
	for _, turn := range []int{4, 5} {
		d := laid(t, turn, 3, allOf("a"))
		lay(t, d, 1-turn%2, headOf(turn-1, 2))
		layBlocks(t, d, turn-1, allOf("b"))
		for n, b := range noBlocks(turn) {
			// The first block, one amid, and the last one.
			for _, at := range [][2]int{{0, 0}, {n % 4, n / 4 % 8}, {3, 7}} {
				i, other := placeOf(turn%2, at[0], at[1]), placeOf(1-turn%2, at[0], at[1])
				good, was := sectorOf(t, d, i), sectorOf(t, d, other)
				lay(t, d, i, b)
				unopened(t, d, api.ErrSum)
				lay(t, d, i, good)
				lay(t, d, other, b)
				wantImage(t, opened(t, d), allOf("a"), 3)
				lay(t, d, other, was)
			}
		}
		wantImage(t, opened(t, d), allOf("a"), 3)
	}
}

// P14.1: each sector of the current area counts, and none of the other one.
func TestOpenEachBlock(t *testing.T) {
	for _, turn := range []int{1, 2} {
		for v := range 4 {
			for b := range 8 {
				d := laid(t, turn, 3, allOf("a"))
				lay(t, d, placeOf(turn%2, v, b), blockOf(turn+2, "z"))
				unopened(t, d, api.ErrSum)
				d = laid(t, turn, 3, allOf("a"))
				lay(t, d, placeOf(1-turn%2, v, b), blockOf(turn, "z"))
				wantImage(t, opened(t, d), allOf("a"), 3)
				lay(t, d, placeOf(turn%2, v, b), blockOf(turn, "z"))
				wantImage(t, opened(t, d), with(allOf("a"), v, b, "z"), 3)
			}
		}
	}
}

// P14.1: a spoilt block of the current area isn't made up for by the other head, whose area
// is good.
func TestOpenSpoiltBesideGood(t *testing.T) {
	d := laid(t, 1, 3, allOf("a"))
	lay(t, d, 0, headOf(2, 4))
	unopened(t, d, api.ErrSum)
	layBlocks(t, d, 2, allOf("b"))
	wantImage(t, opened(t, d), allOf("b"), 4)
	lay(t, d, placeOf(0, 3, 7), fresh)
	unopened(t, d, api.ErrSum)
	lay(t, d, 0, fresh)
	wantImage(t, opened(t, d), allOf("a"), 3)
}

// P14.1, P14.2: data of all lengths and all bytes, through an update and from a disk that
// was laid by the chapter's words.
func TestData(t *testing.T) {
	random := rand.New(rand.NewSource(1))
	d := disk.New(66)
	m := opened(t, d)
	for mark := 1; mark <= 80; mark++ {
		var all Blocks
		for v := range all {
			for b := range all[v] {
				data := make([]byte, random.Intn(17))
				random.Read(data)
				if random.Intn(3) == 0 {
					clear(data)
				}
				all[v][b] = string(data)
			}
		}
		update(t, m, all, mark)
		m = opened(t, d)
		wantImage(t, m, all, mark)
		for _, turn := range []int{mark, mark + 300} {
			wantImage(t, opened(t, laid(t, turn, mark, all)), all, mark)
		}
	}
}

// P14.2: each of the 35 steps: what it writes and flushes, and that nothing else changes
// until the last one.
func TestSteps(t *testing.T) {
	for _, first := range []int{0, 1, 2, 126, 127, 128, 16383, top - 1} {
		d, old, was := disk.New(67), Blocks{}, 0
		if first > 0 {
			d, old, was = laid(t, first, 5, allOf("a")), allOf("a"), 5
		}
		m := opened(t, d)
		turn, mark, all := first+1, was+300, with(with(allOf("b"), 2, 3, ""), 3, 7, full)
		idle(t, d, m)
		want := sectorsOf(t, d)
		begin(t, m, all, mark)
		wantSectors(t, d, want, 0)
		for n := range 35 {
			wantImage(t, m, old, was)
			if !m.Busy() {
				t.Fatalf("not Busy ahead of step %d", n+1)
			}
			advance(t, m, 1, n == 34)
			loose := 0
			switch {
			case n < 32:
				want[placeOf(turn%2, n/8, n%8)] = blockOf(turn, all[n/8][n%8])
				loose = n + 1
			case n == 33:
				want[turn%2] = headOf(turn, mark)
				loose = 1
			}
			wantSectors(t, d, want, loose)
		}
		wantImage(t, m, all, mark)
		idle(t, d, m)
		wantImage(t, opened(t, d), all, mark)
	}
}

// P14.2: each block goes to its own place, in the order of their numbers, also if nothing
// differs from the blocks that the image has.
func TestStepsOfSameBlocks(t *testing.T) {
	d := disk.New(66)
	m := opened(t, d)
	for mark := 1; mark <= 5; mark++ {
		begin(t, m, allOf("a"), mark)
		for n := range 32 {
			advance(t, m, 1, false)
			if got := sectorOf(t, d, placeOf(mark%2, n/8, n%8)); !bytes.Equal(got, blockOf(mark, allOf("a")[n/8][n%8])) || d.Loose() != n+1 {
				t.Fatalf("step %d: % x", n+1, got)
			}
		}
		advance(t, m, 3, true)
		wantImage(t, m, allOf("a"), mark)
	}
}

// P14.2: Begin while an update is in progress, ahead of each of its steps; the update goes
// on.
func TestBeginBusy(t *testing.T) {
	d := laid(t, 1, 5, allOf("a"))
	m := opened(t, d)
	long := with(Blocks{}, 1, 2, full+"g")
	for _, mark := range []int{10, 20} {
		begin(t, m, allOf("b"), mark)
		for n := range 35 {
			for _, at := range []int{math.MinInt, -1, 0, 5, mark - 1, mark, mark + 1, top, top + 1, math.MaxInt} {
				if n%7 > 0 && at != mark+1 {
					continue // these are alike
				}
				refused(t, d, m, allOf("c"), at, api.ErrState)
				refused(t, d, m, long, at, api.ErrState)
			}
			advance(t, m, 1, n == 34)
		}
		wantImage(t, m, allOf("b"), mark)
		wantImage(t, opened(t, d), allOf("b"), mark)
	}
}

// P14.2: blocks of BlockLen bytes, and of more in each of the places.
func TestBeginLength(t *testing.T) {
	d := disk.New(66)
	m := opened(t, d)
	var all Blocks
	for v := range all {
		for b := range all[v] {
			all[v][b] = full
		}
	}
	update(t, m, all, 1)
	for v := range 4 {
		for b := range 8 {
			for _, data := range []string{full + "g", full + "\x00", full + full, strings.Repeat("x", 127), strings.Repeat("x", 1000)} {
				refused(t, d, m, with(all, v, b, data), 2, api.ErrArg)
				refused(t, d, m, with(Blocks{}, v, b, data), 2, api.ErrArg)
			}
			idle(t, d, m)
			// Runes of several bytes count by their bytes.
			refused(t, d, m, with(Blocks{}, v, b, strings.Repeat("é", 8)+"x"), 2, api.ErrArg)
		}
	}
	update(t, m, with(all, 0, 0, strings.Repeat("é", 8)), 2)
}

// P14.2: markers that are numbers and above that of the image, and others; which error it is
// if several hold.
func TestBeginMark(t *testing.T) {
	long := with(Blocks{}, 3, 7, full+"g")
	for _, was := range []int{0, 1, 2, 5, 1 << 32, top - 1, top} {
		d := disk.New(66)
		if was > 0 {
			d = laid(t, 4, was, allOf("a"))
		}
		m := opened(t, d)
		for _, mark := range []int{math.MinInt, math.MinInt + 1, -1 << 60, -5, -1, 0, 1, was - 1, was} {
			if mark > was {
				continue
			}
			refused(t, d, m, allOf("b"), mark, api.ErrStale)
			refused(t, d, m, Blocks{}, mark, api.ErrStale)
			refused(t, d, m, long, mark, api.ErrArg)
			idle(t, d, m)
		}
		for _, mark := range []int{top + 1, top + 2, 1 << 61, math.MaxInt - 1, math.MaxInt} {
			refused(t, d, m, allOf("b"), mark, api.ErrArg)
			refused(t, d, m, long, mark, api.ErrArg)
			idle(t, d, m)
		}
		for _, mark := range []int{was + 1, was + 2, was + 1000, top - 1, top} {
			if mark <= was || mark > top {
				continue
			}
			refused(t, d, m, long, mark, api.ErrArg)
			update(t, m, allOf("b"), mark)
			wantImage(t, opened(t, d), allOf("b"), mark)
			was = mark
		}
		refused(t, d, m, allOf("c"), was, api.ErrStale)
		idle(t, d, m)
	}
}

// P14.2: several updates behind one another go to both areas in turn, and to both heads.
func TestSeveralUpdates(t *testing.T) {
	d := disk.New(66)
	m := opened(t, d)
	want := sectorsOf(t, d)
	for turn := 1; turn <= 300; turn++ {
		mark := turn * 7
		all := allOf(strconv.Itoa(turn) + ":")
		update(t, m, all, mark)
		refused(t, d, m, allOf("x"), mark, api.ErrStale)
		want[turn%2] = headOf(turn, mark)
		for n := range 32 {
			want[2+turn%2*32+n] = blockOf(turn, all[n/8][n%8])
		}
		wantSectors(t, d, want, 0)
		if turn%3 == 0 {
			m = opened(t, d)
			wantImage(t, m, all, mark)
		}
	}
}

// P14.2: a head of the greatest turn is read as it is, and what follows it is encoded by the
// rule of layer 1; the blocks from before are still there.
func TestGreatestTurn(t *testing.T) {
	d := laid(t, top, 3, allOf("a"))
	m := opened(t, d)
	wantImage(t, m, allOf("a"), 3)
	update(t, m, allOf("b"), 4)
	wantImage(t, opened(t, d), allOf("a"), 3)
}

// P14.3: a nil Image.
func TestNilImage(t *testing.T) {
	var m *Image
	for range 2 {
		for _, mark := range []int{math.MinInt, -1, 0, 1, 7, top, top + 1, math.MaxInt} {
			wantError(t, m.Begin(Blocks{}, mark), 0, api.ErrDown)
			wantError(t, m.Begin(with(allOf("a"), 0, 0, full+"g"), mark), 0, api.ErrDown)
		}
		end, err := m.Step()
		if end {
			t.Error("Step of a nil Image reports a last step")
		}
		wantError(t, err, 0, api.ErrDown)
		if m.Busy() || m.Mark() != 0 || m.Blocks() != (Blocks{}) {
			t.Error("a nil Image has something")
		}
	}
}

// R1: an Image that wasn't opened, which the chapter doesn't word, doesn't panic.
func TestZeroImage(t *testing.T) {
	m := &Image{}
	wantImage(t, m, Blocks{}, 0)
	_, err := m.Step()
	wantError(t, err, 0, api.ErrState)
	wantError(t, m.Begin(Blocks{}, 0), 0, api.ErrStale)
	update(t, m, allOf("a"), 1)
	update(t, m, allOf("b"), 2)
}

// R3: what Blocks returned and what Begin was given are the caller's own.
func TestOwnMemory(t *testing.T) {
	d := disk.New(66)
	m := opened(t, d)
	given := allOf("a")
	begin(t, m, given, 1)
	for n := range 35 {
		given[n%4][n%8] = "changed"
		advance(t, m, 1, n == 34)
	}
	wantImage(t, m, allOf("a"), 1)
	wantImage(t, opened(t, d), allOf("a"), 1)

	got, kept := m.Blocks(), m.Blocks()
	for v := range got {
		clear(got[v][:])
	}
	wantImage(t, m, allOf("a"), 1)
	again := allOf("b")
	update(t, m, again, 2)
	if again != allOf("b") || kept != allOf("a") || got != (Blocks{}) {
		t.Error("an argument or an earlier result has changed")
	}
	if refusal := with(allOf("c"), 1, 1, full+"g"); m.Begin(refusal, 3) == nil || refusal != with(allOf("c"), 1, 1, full+"g") {
		t.Error("an argument that was refused has changed")
	}
}

// R6: images on different disks don't know of each other.
func TestApart(t *testing.T) {
	d, e := disk.New(66), disk.New(66)
	m, o := opened(t, d), opened(t, e)
	begin(t, m, allOf("a"), 1)
	idle(t, e, o)
	begin(t, o, allOf("b"), 9)
	for n := range 35 {
		advance(t, m, 1, n == 34)
		advance(t, o, 1, n == 34)
	}
	update(t, o, allOf("c"), 10)
	wantImage(t, m, allOf("a"), 1)
	wantImage(t, opened(t, d), allOf("a"), 1)
	wantImage(t, opened(t, e), allOf("c"), 10)
}
