package volume

import (
	"bytes"
	"encoding/binary"
	"errors"
	"hash/crc32"
	"math"
	"slices"
	"strings"
	"testing"

	"isobar/api"
	"isobar/disk"
	"isobar/fault"
	"isobar/record"
)

// top is the greatest number, as chapter 1 words it.
const top = 1<<60 - 1

// full is data of as many bytes as a block has.
const full = "0123456789abcdef"

// fresh is a sector that was never written.
var fresh = make([]byte, api.SectorLen)

// noBlocks are numbers that aren't blocks.
var noBlocks = []int{-1, -2, -8, 8, 9, 16, 256, 1 << 32, -1 << 32, math.MaxInt, math.MinInt}

// sealed returns the sector that begins with these bytes, by Go's own checksum.
func sealed(body string) []byte {
	b := make([]byte, 60, 64)
	if copy(b, body) != len(body) {
		panic("a body that is longer than a sector")
	}
	c := crc32.Checksum(b, crc32.MakeTable(crc32.Castagnoli))
	return binary.LittleEndian.AppendUint32(b, c)
}

// numbers returns the encodings of numbers, by Go's own varints.
func numbers(ns ...int) string {
	var b []byte
	for _, n := range ns {
		b = binary.AppendUvarint(b, uint64(n))
	}
	return string(b)
}

// homeOf returns a home sector as the chapter words it.
func homeOf(seq, block int, data string) []byte {
	return sealed(numbers(seq, block, len(data)) + data)
}

// headOf returns the head of a journal as chapter 6 words it.
func headOf(turn, first, gen, low int) []byte {
	return sealed(numbers(turn, first, gen, low))
}

// write and mark return records.
func write(seq, block int, data string) api.Record {
	return api.Record{Seq: seq, Kind: api.Write, Block: block, Data: data}
}

func mark(seq, number int) api.Record {
	return api.Record{Seq: seq, Kind: api.Mark, Number: number}
}

// lay makes b the flushed contents of sector i.
func lay(t *testing.T, d *disk.Disk, i int, b []byte) {
	t.Helper()
	if err := d.Write(i, b); err != nil {
		t.Fatal(err)
	}
	d.Flush()
}

// layHome lays the home sector of a block, with a ring.
func layHome(t *testing.T, d *disk.Disk, ring, block int, b []byte) {
	t.Helper()
	lay(t, d, 2+ring+block, b)
}

// layRecord lays a record of generation 1 where it belongs.
func layRecord(t *testing.T, d *disk.Disk, ring int, r api.Record) {
	t.Helper()
	b, err := record.Encode(1, r)
	if err != nil {
		t.Fatal(err)
	}
	lay(t, d, 2+r.Seq%ring, b)
}

// sector returns the current contents of sector i.
func sector(t *testing.T, d *disk.Disk, i int) []byte {
	t.Helper()
	b, err := d.Read(i)
	if err != nil {
		t.Fatal(err)
	}
	return b
}

// sectors returns the current contents of all sectors.
func sectors(t *testing.T, d *disk.Disk) [][]byte {
	t.Helper()
	var all [][]byte
	for i := range d.Len() {
		all = append(all, sector(t, d, i))
	}
	return all
}

// wantSectors checks the current contents of all sectors, and how many writes of them
// aren't flushed.
func wantSectors(t *testing.T, d *disk.Disk, want [][]byte, loose int) {
	t.Helper()
	if d.Loose() != loose {
		t.Fatalf("Loose = %d, want %d", d.Loose(), loose)
	}
	for i, b := range sectors(t, d) {
		if !bytes.Equal(b, want[i]) {
			t.Fatalf("sector %d: % x, want % x", i, b, want[i])
		}
	}
}

// wantHome checks the home sector of a block.
func wantHome(t *testing.T, d *disk.Disk, ring, block int, want []byte) {
	t.Helper()
	if got := sector(t, d, 2+ring+block); !bytes.Equal(got, want) {
		t.Fatalf("home of %d: % x, want % x", block, got, want)
	}
}

// wantFault checks that err is a fault with that name and number, and returns what it wraps.
func wantFault(t *testing.T, err error, op string, at int) error {
	t.Helper()
	f, ok := err.(*fault.Fault)
	if !ok || f == nil || f.Op != op || f.At != at {
		t.Fatalf("got %v, want the fault %s, %d", err, op, at)
	}
	return f.Err
}

// wantError checks that err is the fault volume, at, directly around e.
func wantError(t *testing.T, err error, at int, e api.Errno) {
	t.Helper()
	if in := wantFault(t, err, "volume", at); in != error(e) {
		t.Fatalf("got %v, want %v directly in it", err, e)
	}
	if fault.Code(err) != e || !errors.Is(err, e) {
		t.Fatalf("%v doesn't have the code %v", err, e)
	}
}

// wantInner checks that err is the fault volume, at, around the fault journal, inner,
// directly around e.
func wantInner(t *testing.T, err error, at, inner int, e api.Errno) {
	t.Helper()
	in := wantFault(t, err, "volume", at)
	if last := wantFault(t, in, "journal", inner); last != error(e) {
		t.Fatalf("got %v, want %v in the journal's fault", err, e)
	}
	if fault.Code(err) != e || !errors.Is(err, e) {
		t.Fatalf("%v doesn't have the code %v", err, e)
	}
}

// wantInvalid checks that err is the fault volume, at, around layer 6's for a record with
// the number seq that isn't valid.
func wantInvalid(t *testing.T, err error, at, seq int) {
	t.Helper()
	in := wantFault(t, wantFault(t, err, "volume", at), "journal", seq)
	if last := wantFault(t, in, "record", seq); last != error(api.ErrArg) {
		t.Fatalf("got %v, want arg in the record's fault", err)
	}
}

// opened opens a volume that can be opened.
func opened(t *testing.T, d *disk.Disk, ring int) *Volume {
	t.Helper()
	v, err := Open(d, ring)
	if err != nil || v == nil {
		t.Fatalf("Open(%d) = %v, %v", ring, v, err)
	}
	return v
}

// begin opens a volume on a disk of its own.
func begin(t *testing.T, ring int) (*disk.Disk, *Volume) {
	t.Helper()
	d := disk.New(Sectors(ring))
	return d, opened(t, d, ring)
}

// unopened checks that a volume can't be opened, and that this changes nothing; it
// returns the error.
func unopened(t *testing.T, d *disk.Disk, ring int) error {
	t.Helper()
	before, loose := sectors(t, d), d.Loose()
	v, err := Open(d, ring)
	if v != nil || err == nil {
		t.Fatalf("Open(%d) = %v, %v", ring, v, err)
	}
	wantSectors(t, d, before, loose)
	return err
}

// put writes a block, and checks the number and that the record was appended, without
// being flushed.
func put(t *testing.T, d *disk.Disk, v *Volume, ring, block int, data string) {
	t.Helper()
	next := v.Next()
	check := wantAppended(t, d, v, ring, write(next, block, data))
	if n, err := v.Write(block, data); n != next || err != nil {
		t.Fatalf("Write(%d, %q) = %d, %v, want %d", block, data, n, err, next)
	}
	check()
}

// wantAppended notes the state before a call, and returns a check that nothing but that
// record was added by it.
func wantAppended(t *testing.T, d *disk.Disk, v *Volume, ring int, r api.Record) func() {
	t.Helper()
	after, loose, held := sectors(t, d), d.Loose(), v.Records()
	return func() {
		t.Helper()
		_, was, err := record.Decode(sector(t, d, 2+r.Seq%ring))
		if err != nil || was != r {
			t.Fatalf("the ring has %#v, %v, want %#v", was, err, r)
		}
		after[2+r.Seq%ring] = sector(t, d, 2+r.Seq%ring)
		wantSectors(t, d, after, loose+1)
		if got := v.Records(); !slices.Equal(got, append(held, r)) || v.Next() != r.Seq+1 {
			t.Fatalf("Records %v, Next %d behind %v and %v", got, v.Next(), held, r)
		}
	}
}

// unchanged notes the state, and returns a check that it's still the same.
func unchanged(t *testing.T, d *disk.Disk, v *Volume) func() {
	t.Helper()
	before, loose := sectors(t, d), d.Loose()
	held, next, blocks := v.Records(), v.Next(), read8(t, v)
	return func() {
		t.Helper()
		wantSectors(t, d, before, loose)
		if !slices.Equal(v.Records(), held) || v.Next() != next || read8(t, v) != blocks {
			t.Fatalf("Records %v, Next %d, blocks %q, want %v, %d, %q", v.Records(), v.Next(), read8(t, v), held, next, blocks)
		}
	}
}

// read8 returns the contents of all blocks.
func read8(t *testing.T, v *Volume) (all [8]string) {
	t.Helper()
	for b := range all {
		var err error
		if all[b], err = v.Read(b); err != nil {
			t.Fatalf("Read(%d) = %v", b, err)
		}
	}
	return all
}

// wantBlocks checks the contents of all blocks: those that aren't named are empty.
func wantBlocks(t *testing.T, v *Volume, want map[int]string) {
	t.Helper()
	var all [8]string
	for b, data := range want {
		all[b] = data
	}
	if got := read8(t, v); got != all {
		t.Fatalf("blocks are %q, want %q", got, all)
	}
}

// wantHeld checks the records that are held, and the number of the next one.
func wantHeld(t *testing.T, v *Volume, next int, want ...api.Record) {
	t.Helper()
	if got := v.Records(); !slices.Equal(got, want) || v.Next() != next {
		t.Fatalf("Records %v, Next %d, want %v, %d", got, v.Next(), want, next)
	}
}

// P11.1: the heads, the ring and a home for each block.
func TestSectors(t *testing.T) {
	for ring, want := range map[int]int{0: 10, 1: 11, 2: 12, 4: 14, 100: 110, 511: 521, 512: 522, 513: 523, -1: 9, -10: 0, -11: -1, 1 << 40: 1<<40 + 10} {
		if got := Sectors(ring); got != want {
			t.Errorf("Sectors(%d) = %d, want %d", ring, got, want)
		}
	}
	least, greatest := math.MinInt, math.MaxInt
	if Sectors(least) != least+10 || Sectors(greatest) != greatest+10 {
		t.Errorf("Sectors of the least and the greatest: %d, %d", Sectors(least), Sectors(greatest))
	}
}

// P11.1: rings from 1 to 512, on a disk that has sectors for more.
func TestOpenRing(t *testing.T) {
	for _, ring := range []int{math.MinInt, math.MinInt + 1, -513, -512, -10, -2, -1, 0, 513, 514, 1014, 1015, 1024, 1 << 32, math.MaxInt - 10, math.MaxInt - 9, math.MaxInt} {
		wantError(t, unopened(t, disk.New(api.MaxSectors), ring), ring, api.ErrArg)
		wantError(t, unopened(t, nil, ring), ring, api.ErrArg)
	}
	for _, ring := range []int{1, 2, 3, 4, 63, 64, 65, 511, 512} {
		v := opened(t, disk.New(api.MaxSectors), ring)
		wantHeld(t, v, 1)
		wantBlocks(t, v, nil)
	}
}

// P11.1: a disk needs the sectors of the volume.
func TestOpenSectors(t *testing.T) {
	for ring := 1; ring <= 512; ring++ {
		for _, n := range []int{0, 1, 2, 2 + ring, Sectors(ring) - 1} {
			wantError(t, unopened(t, disk.New(n), ring), ring, api.ErrArg)
		}
		for _, n := range []int{Sectors(ring), Sectors(ring) + 1, api.MaxSectors} {
			wantHeld(t, opened(t, disk.New(n), ring), 1)
		}
	}
	for _, ring := range []int{1, 4, 512} {
		wantError(t, unopened(t, nil, ring), ring, api.ErrArg)
		wantError(t, unopened(t, &disk.Disk{}, ring), ring, api.ErrArg)
	}
}

// P11.1: Open saves a head, and writes nothing else; sectors behind those of the volume
// are none of its.
func TestOpenWrites(t *testing.T) {
	d := disk.New(Sectors(4) + 2)
	lay(t, d, Sectors(4), sealed("other"))
	lay(t, d, Sectors(4)+1, bytes.Repeat([]byte{0xff}, 64))
	for n := 1; n < 5; n++ {
		after := sectors(t, d)
		after[n%2] = headOf(n, 1, n, 0)
		wantHeld(t, opened(t, d, 4), 1)
		wantSectors(t, d, after, 0)
	}
}

// P11.1: the error of the journal's Open is in that of Open. Nothing is changed, not even
// flushed, and it comes ahead of home sectors that aren't valid.
func TestOpenJournalFails(t *testing.T) {
	d := disk.New(Sectors(4))
	lay(t, d, 1, sealed("spoilt"))
	wantInner(t, unopened(t, d, 4), 4, 4, api.ErrSum)
	layHome(t, d, 4, 0, sealed("spoilt"))
	d.Write(0, headOf(0, 0, 0, 0))
	d.Write(3, sealed("loose"))
	wantInner(t, unopened(t, d, 4), 4, 4, api.ErrSum)
	wantError(t, unopened(t, d, 5), 5, api.ErrArg)
	wantError(t, unopened(t, d, 0), 0, api.ErrArg)
}

// homeCases are home sectors of block 5.
var homeCases = []struct {
	name  string
	b     []byte
	valid bool
	data  string
}{
	{"all zero", fresh, true, ""},
	{"the least number", homeOf(1, 5, "a"), true, "a"},
	{"no data", homeOf(1, 5, ""), true, ""},
	{"two bytes of number", homeOf(300, 5, "ab"), true, "ab"},
	{"by hand", sealed("\xac\x02\x05\x02ab"), true, "ab"},
	{"all of a block", homeOf(7, 5, full), true, full},
	{"the greatest number", homeOf(top, 5, full), true, full},
	{"bytes that are zero", homeOf(7, 5, "\x00\x00"), true, "\x00\x00"},
	{"bytes that are no text", homeOf(7, 5, "\xff\x80\xfe"), true, "\xff\x80\xfe"},
	{"number 0", homeOf(0, 5, "a"), false, ""},
	{"number 0 and no data", homeOf(0, 5, ""), false, ""},
	{"zero bytes with a check", sealed(""), false, ""},
	{"a negative number", sealed("\xff\xff\xff\xff\xff\xff\xff\xff\xff\x01" + numbers(5, 1) + "a"), false, ""},
	{"a number that is too great", sealed(numbers(top+1, 5, 1) + "a"), false, ""},
	{"a long number", sealed("\x87\x00" + numbers(5, 1) + "a"), false, ""},
	{"a number that doesn't end", sealed(strings.Repeat("\x80", 60)), false, ""},
	{"block 4", homeOf(7, 4, "a"), false, ""},
	{"block 6", homeOf(7, 6, "a"), false, ""},
	{"block 0", homeOf(7, 0, "a"), false, ""},
	{"block 8", homeOf(7, 8, "a"), false, ""},
	{"block 5 and 2^7", homeOf(7, 5+1<<7, "a"), false, ""},
	{"block 5 and 2^32", homeOf(7, 5+1<<32, "a"), false, ""},
	{"a long block", sealed(numbers(7) + "\x85\x00" + numbers(1) + "a"), false, ""},
	{"data that is too long", homeOf(7, 5, full+"g"), false, ""},
	{"data that is far too long", homeOf(7, 5, strings.Repeat("z", 57)), false, ""},
	{"data longer than the sector", sealed(numbers(7, 5, 58)), false, ""},
	{"a length that is great", sealed(numbers(7, 5, top)), false, ""},
	{"a long length", sealed(numbers(7, 5) + "\x81\x00a"), false, ""},
	{"the check is zero", append(homeOf(7, 5, "a")[:60:60], 0, 0, 0, 0), false, ""},
	{"the check is another's", append(homeOf(7, 5, "a")[:60:60], homeOf(8, 5, "a")[60:]...), false, ""},
	{"a byte behind the data", sealed(numbers(7, 5, 1) + "ab"), false, ""},
	{"a last byte behind the data", sealed(numbers(7, 5, 1) + "a" + strings.Repeat("\x00", 55) + "\x01"), false, ""},
	{"a byte behind no data", sealed(numbers(7, 5, 0) + "a"), false, ""},
	{"only the check is zero", append([]byte{7, 5, 1, 'a'}, make([]byte, 60)...), false, ""},
	{"one bit is set", append(make([]byte, 63), 1), false, ""},
	{"all bits are set", bytes.Repeat([]byte{0xff}, 64), false, ""},
	{"a record", sealed("\x01\x07\x01\x05\x01a"), false, ""},
}

// P11.1: which home sectors are valid, and that a head is saved if they aren't.
func TestOpenHomes(t *testing.T) {
	for _, c := range homeCases {
		t.Run(c.name, func(t *testing.T) {
			d := disk.New(Sectors(4))
			layHome(t, d, 4, 5, c.b)
			wantOpen(t, d, 4, c.valid)
			if c.valid {
				wantBlocks(t, opened(t, d, 4), map[int]string{5: c.data})
			}
		})
	}
}

// wantOpen opens a fresh journal behind which are home sectors, valid or not, and checks
// that all it writes is a head.
func wantOpen(t *testing.T, d *disk.Disk, ring int, valid bool) {
	t.Helper()
	after := sectors(t, d)
	after[1] = headOf(1, 1, 1, 0)
	v, err := Open(d, ring)
	if !valid {
		wantError(t, err, ring, api.ErrSum)
	}
	if (v != nil) != valid || (err == nil) != valid {
		t.Fatalf("Open = %v, %v", v, err)
	}
	wantSectors(t, d, after, 0)
}

// P11.1: the home sector of each block, with rings of many sizes, in its place.
func TestOpenEachHome(t *testing.T) {
	for _, ring := range []int{1, 2, 4, 64, 512} {
		all := disk.New(Sectors(ring))
		want := map[int]string{}
		for block := range 8 {
			d := disk.New(Sectors(ring))
			layHome(t, d, ring, block, homeOf(block+1, block, "x"))
			wantOpen(t, d, ring, true)
			wantBlocks(t, opened(t, d, ring), map[int]string{block: "x"})

			want[block] = strings.Repeat("y", block)
			layHome(t, all, ring, block, homeOf(9-block, block, want[block]))

			d = disk.New(Sectors(ring))
			layHome(t, d, ring, block, homeOf(1, (block+1)%8, "x"))
			wantOpen(t, d, ring, false)
		}
		wantOpen(t, all, ring, true)
		wantBlocks(t, opened(t, all, ring), want)
	}
}

// P11.1: no bit of a home sector may be wrong.
func TestOpenHomeBits(t *testing.T) {
	for _, block := range []int{0, 3, 7} {
		for bit := range 8 * api.SectorLen {
			for _, b := range [][]byte{fresh, homeOf(300, block, "abc")} {
				b = slices.Clone(b)
				b[bit/8] ^= 1 << (bit % 8)
				d := disk.New(Sectors(4))
				layHome(t, d, 4, block, b)
				wantOpen(t, d, 4, false)
			}
		}
	}
}

// P11.1: an error because of a home sector leaves a volume that opens once it's mended,
// with all of its records.
func TestOpenAgain(t *testing.T) {
	d, v := begin(t, 4)
	put(t, d, v, 4, 0, "a")
	put(t, d, v, 4, 1, "b")
	layHome(t, d, 4, 7, sealed("spoilt"))
	for n := 2; n < 6; n++ {
		_, err := Open(d, 4)
		wantError(t, err, 4, api.ErrSum)
		if b := sector(t, d, n%2); !bytes.Equal(b, headOf(n, 1, n, 0)) {
			t.Fatalf("the head is % x", b)
		}
	}
	layHome(t, d, 4, 7, fresh)
	v = opened(t, d, 4)
	wantHeld(t, v, 3, write(1, 0, "a"), write(2, 1, "b"))
	wantBlocks(t, v, map[int]string{0: "a", 1: "b"})
}

// P11.1: Open reads what isn't flushed as well, and its head makes it durable.
func TestOpenUnflushed(t *testing.T) {
	d, v := begin(t, 4)
	put(t, d, v, 4, 0, "a")
	d.Write(2+4+1, homeOf(9, 1, "b"))
	for range 2 {
		v = opened(t, d, 4)
		wantHeld(t, v, 2, write(1, 0, "a"))
		wantBlocks(t, v, map[int]string{0: "a", 1: "b"})
		d.Crash(0)
	}
}

// P11.2: the first block, the last one and the others, with data of each length.
func TestWrite(t *testing.T) {
	for block := range 8 {
		for n := range api.BlockLen + 1 {
			d, v := begin(t, 4)
			put(t, d, v, 4, block, full[:n])
			wantHeld(t, v, 2, write(1, block, full[:n]))
			wantBlocks(t, v, map[int]string{block: full[:n]})
		}
	}
	d, v := begin(t, 4)
	put(t, d, v, 4, 0, "\x00\xff\x00")
	wantBlocks(t, v, map[int]string{0: "\x00\xff\x00"})
}

// P11.2: blocks that aren't there, and data that is too long, whatever else is wrong.
func TestWriteErrors(t *testing.T) {
	d, v := begin(t, 3)
	for n := range 4 {
		same := unchanged(t, d, v)
		for _, block := range noBlocks {
			for _, data := range []string{"", "a", full + "g"} {
				n, err := v.Write(block, data)
				wantError(t, err, block, api.ErrRange)
				wantNone(t, n)
			}
		}
		for block := range 8 {
			for _, data := range []string{full + "g", strings.Repeat("\x00", 17), strings.Repeat("z", 1000)} {
				n, err := v.Write(block, data)
				wantError(t, err, block, api.ErrArg)
				wantNone(t, n)
			}
		}
		same()
		if n < 3 {
			put(t, d, v, 3, 7, "x")
		}
	}
	n, err := v.Write(7, full)
	wantInner(t, err, 7, 4, api.ErrFull)
	wantNone(t, n)
}

// wantNone checks the number that stands beside an error.
func wantNone(t *testing.T, n int) {
	t.Helper()
	if n != 0 {
		t.Fatalf("%d beside an error", n)
	}
}

// P11.2: markers of a number from 1 on, of which the journal tells the others.
func TestMark(t *testing.T) {
	d, v := begin(t, 4)
	for i, number := range []int{1, 300, top, 2} {
		same := unchanged(t, d, v)
		for _, none := range []int{0, -1, -300, -top, math.MinInt, top + 1, math.MaxInt} {
			n, err := v.Mark(none)
			wantInvalid(t, err, none, i+1)
			wantNone(t, n)
		}
		same()
		check := wantAppended(t, d, v, 4, mark(i+1, number))
		if n, err := v.Mark(number); n != i+1 || err != nil {
			t.Fatalf("Mark(%d) = %d, %v", number, n, err)
		}
		check()
		wantBlocks(t, v, nil)
	}
	same := unchanged(t, d, v)
	for _, number := range []int{1, top, 0, -5, math.MaxInt} {
		n, err := v.Mark(number)
		wantInner(t, err, number, 5, api.ErrFull)
		wantNone(t, n)
	}
	same()
}

// P11.2, P11.3: a journal that is full takes records again behind a checkpoint that drops
// some, on rings of several sizes.
func TestFull(t *testing.T) {
	for _, ring := range []int{1, 2, 5, 512} {
		d, v := begin(t, ring)
		next := 1
		for drop := range 3 {
			for next <= ring+drop {
				n, err := v.Write(next%8, "a")
				if n != next || err != nil {
					t.Fatalf("Write = %d, %v, want %d", n, err, next)
				}
				next++
			}
			same := unchanged(t, d, v)
			n, err := v.Write(3, "b")
			wantInner(t, err, 3, next, api.ErrFull)
			wantNone(t, n)
			n, err = v.Mark(9)
			wantInner(t, err, 9, next, api.ErrFull)
			wantNone(t, n)
			same()
			if err := v.Checkpoint(next - ring); err != nil {
				t.Fatal(err)
			}
		}
		if n, err := v.Mark(9); n != next || err != nil {
			t.Errorf("Mark = %d, %v, want %d", n, err, next)
		}
	}
}

// P11.2: what a block has that was never written, was written once, and more than once;
// markers and other blocks don't change it.
func TestRead(t *testing.T) {
	d, v := begin(t, 8)
	wantBlocks(t, v, nil)
	put(t, d, v, 8, 2, "a")
	wantBlocks(t, v, map[int]string{2: "a"})
	put(t, d, v, 8, 0, "b")
	put(t, d, v, 8, 2, "c")
	wantBlocks(t, v, map[int]string{0: "b", 2: "c"})
	if _, err := v.Mark(2); err != nil {
		t.Fatal(err)
	}
	wantBlocks(t, v, map[int]string{0: "b", 2: "c"})
	put(t, d, v, 8, 2, "c")
	put(t, d, v, 8, 7, full)
	put(t, d, v, 8, 2, "")
	wantBlocks(t, v, map[int]string{0: "b", 7: full})
	same := unchanged(t, d, v)
	for _, block := range noBlocks {
		s, err := v.Read(block)
		wantError(t, err, block, api.ErrRange)
		if s != "" {
			t.Errorf("Read(%d) = %q", block, s)
		}
	}
	same()
}

// P11.2: a marker's fields don't count as a write of block 0.
func TestReadBehindMark(t *testing.T) {
	d, v := begin(t, 4)
	put(t, d, v, 4, 0, "a")
	for n := 1; n < 4; n++ {
		if _, err := v.Mark(n); err != nil {
			t.Fatal(err)
		}
		wantBlocks(t, v, map[int]string{0: "a"})
	}
	if err := v.Checkpoint(4); err != nil {
		t.Fatal(err)
	}
	wantHome(t, d, 4, 0, homeOf(1, 0, "a"))
	wantBlocks(t, opened(t, d, 4), map[int]string{0: "a"})
}

// P11.2: Flush makes durable what was written; without it, a crash undoes it.
func TestFlush(t *testing.T) {
	d, v := begin(t, 4)
	put(t, d, v, 4, 0, "a")
	v.Mark(1)
	after := sectors(t, d)
	v.Flush()
	wantSectors(t, d, after, 0)
	wantHeld(t, v, 3, write(1, 0, "a"), mark(2, 1))
	v.Flush()
	put(t, d, v, 4, 0, "b")
	d.Crash(0)
	wantSectors(t, d, after, 0)
	v = opened(t, d, 4)
	wantHeld(t, v, 3, write(1, 0, "a"), mark(2, 1))
	wantBlocks(t, v, map[int]string{0: "a"})
}

// P11.2: Records is new memory for each call.
func TestRecordsAreNew(t *testing.T) {
	d, v := begin(t, 4)
	put(t, d, v, 4, 0, "a")
	put(t, d, v, 4, 1, "b")
	first, second := v.Records(), v.Records()
	_ = append(first[:1], write(2, 1, "x"))
	clear(first)
	wantHeld(t, v, 3, write(1, 0, "a"), write(2, 1, "b"))
	wantBlocks(t, v, map[int]string{0: "a", 1: "b"})
	if err := v.Checkpoint(1); err != nil {
		t.Fatal(err)
	}
	put(t, d, v, 4, 2, "c")
	if !slices.Equal(second, []api.Record{write(1, 0, "a"), write(2, 1, "b")}) {
		t.Errorf("Records was changed behind the call: %v", second)
	}
}

// P11.2: behind the greatest number of a record, no write is possible; what was written
// is still read, and brought home.
func TestGreatestNumber(t *testing.T) {
	d := disk.New(Sectors(4))
	lay(t, d, 0, headOf(0, top-1, 1, 1))
	v := opened(t, d, 4)
	put(t, d, v, 4, 0, "a")
	put(t, d, v, 4, 1, "b")
	same := unchanged(t, d, v)
	n, err := v.Write(2, "c")
	wantInvalid(t, err, 2, top+1)
	wantNone(t, n)
	n, err = v.Mark(5)
	wantInvalid(t, err, 5, top+1)
	wantNone(t, n)
	wantError(t, v.Checkpoint(top+1), top+1, api.ErrRange)
	same()
	if err := v.Checkpoint(top); err != nil {
		t.Fatal(err)
	}
	wantHeld(t, v, top+1)
	wantHome(t, d, 4, 0, homeOf(top-1, 0, "a"))
	wantHome(t, d, 4, 1, homeOf(top, 1, "b"))
	wantBlocks(t, v, map[int]string{0: "a", 1: "b"})
	wantBlocks(t, opened(t, d, 4), map[int]string{0: "a", 1: "b"})
}

// P11.4: all errors of a nil volume are the same, and all else is empty.
func TestNilVolume(t *testing.T) {
	var v *Volume
	for _, n := range append([]int{0, 1, 7, top}, noBlocks...) {
		for _, data := range []string{"", "a", full + "g"} {
			seq, err := v.Write(n, data)
			wantError(t, err, 0, api.ErrDown)
			wantNone(t, seq)
		}
		seq, err := v.Mark(n)
		wantError(t, err, 0, api.ErrDown)
		wantNone(t, seq)
		s, err := v.Read(n)
		wantError(t, err, 0, api.ErrDown)
		if s != "" {
			t.Errorf("Read(%d) = %q", n, s)
		}
		wantError(t, v.Checkpoint(n), 0, api.ErrDown)
	}
	v.Flush()
	if len(v.Records()) != 0 || v.Next() != 0 {
		t.Errorf("Records %v, Next %d", v.Records(), v.Next())
	}
}

// R1: a zero volume, of which nothing is said but that it must not panic.
func TestZeroVolume(t *testing.T) {
	v := &Volume{}
	v.Flush()
	for _, n := range append([]int{0, 1, 7}, noBlocks...) {
		if seq, err := v.Write(n, "a"); seq != 0 || err == nil {
			t.Errorf("Write = %d, %v", seq, err)
		}
		if seq, err := v.Mark(n); seq != 0 || err == nil {
			t.Errorf("Mark = %d, %v", seq, err)
		}
		if s, _ := v.Read(n); s != "" {
			t.Errorf("Read = %q", s)
		}
		if v.Checkpoint(n) == nil {
			t.Errorf("a checkpoint of nothing")
		}
	}
	if len(v.Records()) != 0 || v.Next() != 0 {
		t.Errorf("Records %v, Next %d", v.Records(), v.Next())
	}
}

// P11.1 to P11.4: the texts of the faults.
func TestErrorTexts(t *testing.T) {
	d, v := begin(t, 1)
	_, block := v.Write(8, "")
	_, long := v.Write(3, full+"g")
	_, number := v.Mark(-4)
	_, read := v.Read(-1)
	put(t, d, v, 1, 0, "a")
	_, taken := v.Write(6, "b")
	_, marked := v.Mark(300)
	_, few := Open(d, 2)
	layHome(t, d, 1, 7, sealed(""))
	_, home := Open(d, 1)
	lay(t, d, 0, sealed(""))
	lay(t, d, 1, sealed(""))
	_, head := Open(d, 1)
	var none *Volume
	_, down := none.Read(3)
	cases := []struct {
		err  error
		want string
	}{
		{few, "volume 2: arg"}, {home, "volume 1: sum"}, {head, "volume 1: journal 1: sum"},
		{block, "volume 8: range"}, {long, "volume 3: arg"}, {read, "volume -1: range"},
		{taken, "volume 6: journal 2: full"}, {marked, "volume 300: journal 2: full"},
		{number, "volume -4: journal 1: record 1: arg"},
		{v.Checkpoint(2), "volume 2: range"}, {v.Checkpoint(-4), "volume -4: range"}, {down, "volume 0: down"},
	}
	for _, c := range cases {
		if c.err == nil || c.err.Error() != c.want {
			t.Errorf("got %v, want %s", c.err, c.want)
		}
	}
}

// P11.2: errors are wrapped in errors: errors.As finds the volume's fault first, then the
// journal's in it.
func TestErrorsAs(t *testing.T) {
	d, v := begin(t, 1)
	put(t, d, v, 1, 0, "a")
	_, err := v.Write(5, "b")
	var f *fault.Fault
	if !errors.As(err, &f) || f.Op != "volume" || f.At != 5 {
		t.Fatalf("the first fault is %v", f)
	}
	if !errors.As(f.Err, &f) || f.Op != "journal" || f.At != 2 {
		t.Fatalf("the second fault is %v", f)
	}
	var e api.Errno
	if !errors.As(err, &e) || e != api.ErrFull {
		t.Fatalf("the code is %v", e)
	}
	if p := fault.Path(err); !slices.Equal(p, []string{"volume 5", "journal 2"}) {
		t.Errorf("the path is %v", p)
	}
}

// R6: volumes of two disks don't know of each other, and the same calls answer the same.
func TestVolumesAreApart(t *testing.T) {
	d, v := begin(t, 4)
	e, w := begin(t, 4)
	put(t, d, v, 4, 0, "a")
	put(t, e, w, 4, 1, "b")
	put(t, d, v, 4, 1, "b")
	put(t, e, w, 4, 0, "a")
	wantHeld(t, v, 3, write(1, 0, "a"), write(2, 1, "b"))
	wantHeld(t, w, 3, write(1, 1, "b"), write(2, 0, "a"))
	for _, x := range []*Volume{v, w} {
		wantBlocks(t, x, map[int]string{0: "a", 1: "b"})
		if err := x.Checkpoint(2); err != nil {
			t.Fatal(err)
		}
		wantBlocks(t, x, map[int]string{0: "a", 1: "b"})
	}
	wantHome(t, d, 4, 0, homeOf(1, 0, "a"))
	wantHome(t, d, 4, 1, homeOf(2, 1, "b"))
	wantHome(t, e, 4, 0, homeOf(2, 0, "a"))
	wantHome(t, e, 4, 1, homeOf(1, 1, "b"))
}
