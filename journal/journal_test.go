package journal

import (
	"bytes"
	"encoding/binary"
	"errors"
	"hash/crc32"
	"math"
	"math/rand"
	"slices"
	"strings"
	"testing"

	"isobar/api"
	"isobar/disk"
	"isobar/fault"
	"isobar/record"
)

// top is the greatest number, as chapter 1 words it.
const top = 1<<60 - 1

// fresh is a sector that was never written.
var fresh = make([]byte, api.SectorLen)

// sealed returns the sector that begins with these bytes, by Go's own checksum.
func sealed(body string) []byte {
	b := make([]byte, 60, 64)
	if copy(b, body) != len(body) {
		panic("a body that is longer than a sector")
	}
	c := crc32.Checksum(b, crc32.MakeTable(crc32.Castagnoli))
	return binary.LittleEndian.AppendUint32(b, c)
}

// numbers returns the encodings of numbers, by Go's own varints.
func numbers(ns ...int) string {
	var b []byte
	for _, n := range ns {
		b = binary.AppendUvarint(b, uint64(n))
	}
	return string(b)
}

// headOf returns the encoding of a head as the chapter words it.
func headOf(turn, first, gen, low int) []byte {
	return sealed(numbers(turn, first, gen, low))
}

// write and mark return records that are valid but for their Seq, which Append sets.
func write(data string) api.Record { return api.Record{Kind: api.Write, Block: 3, Data: data} }

func mark(number int) api.Record { return api.Record{Kind: api.Mark, Number: number} }

// number returns r with that Seq.
func number(seq int, r api.Record) api.Record {
	r.Seq = seq
	return r
}

// writes returns writes with these data, numbered from first on.
func writes(first int, data ...string) []api.Record {
	var out []api.Record
	for i, s := range data {
		out = append(out, number(first+i, write(s)))
	}
	return out
}

// lay makes b the flushed contents of sector i.
func lay(t *testing.T, d *disk.Disk, i int, b []byte) {
	t.Helper()
	if err := d.Write(i, b); err != nil {
		t.Fatal(err)
	}
	d.Flush()
}

// layRecord lays a record of a generation where it belongs.
func layRecord(t *testing.T, d *disk.Disk, ring, gen int, r api.Record) {
	t.Helper()
	b, err := record.Encode(gen, r)
	if err != nil {
		t.Fatal(err)
	}
	lay(t, d, 2+r.Seq%ring, b)
}

// sector returns the current contents of sector i.
func sector(t *testing.T, d *disk.Disk, i int) []byte {
	t.Helper()
	b, err := d.Read(i)
	if err != nil {
		t.Fatal(err)
	}
	return b
}

// contents returns the current contents of all sectors.
func contents(t *testing.T, d *disk.Disk) [][]byte {
	t.Helper()
	var all [][]byte
	for i := range d.Len() {
		all = append(all, sector(t, d, i))
	}
	return all
}

// wantContents checks the current contents of all sectors, and how many writes of them
// aren't flushed.
func wantContents(t *testing.T, d *disk.Disk, want [][]byte, loose int) {
	t.Helper()
	if d.Loose() != loose {
		t.Fatalf("Loose = %d, want %d", d.Loose(), loose)
	}
	for i, b := range contents(t, d) {
		if !bytes.Equal(b, want[i]) {
			t.Fatalf("sector %d: % x, want % x", i, b, want[i])
		}
	}
}

// wantSector checks the current contents of sector i.
func wantSector(t *testing.T, d *disk.Disk, i int, want []byte) {
	t.Helper()
	if got := sector(t, d, i); !bytes.Equal(got, want) {
		t.Fatalf("sector %d: % x, want % x", i, got, want)
	}
}

// wantFault checks that err is the fault journal, at, directly around e.
func wantFault(t *testing.T, err error, at int, e api.Errno) {
	t.Helper()
	f, ok := err.(*fault.Fault)
	if !ok || f == nil || f.Op != "journal" || f.At != at || f.Err != error(e) {
		t.Fatalf("got %v, want the fault journal, %d, around %v", err, at, e)
	}
	if fault.Code(err) != e || !errors.Is(err, e) {
		t.Fatalf("%v doesn't have the code %v", err, e)
	}
}

// wantInvalid checks that err is the fault journal, seq, around layer 5's fault.
func wantInvalid(t *testing.T, err error, seq int) {
	t.Helper()
	f, ok := err.(*fault.Fault)
	if !ok || f == nil || f.Op != "journal" || f.At != seq {
		t.Fatalf("got %v, want the fault journal, %d", err, seq)
	}
	g, ok := f.Err.(*fault.Fault)
	if !ok || g == nil || g.Op != "record" || g.At != seq || g.Err != error(api.ErrArg) {
		t.Fatalf("got %v, want the fault record, %d, around arg in it", err, seq)
	}
}

// opened opens a journal that can be opened.
func opened(t *testing.T, d *disk.Disk, ring int) *Journal {
	t.Helper()
	j, err := Open(d, ring)
	if err != nil || j == nil {
		t.Fatalf("Open(%d) = %v, %v", ring, j, err)
	}
	return j
}

// unopened checks that a journal can't be opened, and that this changes nothing.
func unopened(t *testing.T, d *disk.Disk, ring int, e api.Errno) {
	t.Helper()
	before, loose := contents(t, d), d.Loose()
	j, err := Open(d, ring)
	wantFault(t, err, ring, e)
	if j != nil {
		t.Fatalf("Open(%d) = %v beside an error", ring, j)
	}
	wantContents(t, d, before, loose)
}

// put appends a record, and checks its number, where it is written, and that nothing
// is flushed.
func put(t *testing.T, d *disk.Disk, j *Journal, ring, gen, seq int, r api.Record) {
	t.Helper()
	after, loose := contents(t, d), d.Loose()
	n, err := j.Append(r)
	if n != seq || err != nil {
		t.Fatalf("Append(%#v) = %d, %v, want %d", r, n, err, seq)
	}
	after[2+seq%ring], err = record.Encode(gen, number(seq, r))
	if err != nil {
		t.Fatal(err)
	}
	wantContents(t, d, after, loose+1)
}

// wantHeld checks what a journal tells of its records.
func wantHeld(t *testing.T, j *Journal, ring, first int, want ...api.Record) {
	t.Helper()
	if got := j.Records(); !slices.Equal(got, want) {
		t.Fatalf("Records = %v, want %v", got, want)
	}
	if j.Next() != first+len(want) || j.Room() != ring-len(want) {
		t.Fatalf("Next %d, Room %d, want %d, %d", j.Next(), j.Room(), first+len(want), ring-len(want))
	}
}

// wording is what the chapter says of a disk: the numbers of its current head, the
// records that are held with their generations, and whether it can be opened.
type wording struct {
	turn, first, gen, low int
	held                  []api.Record
	gens                  []int
	ok                    bool
}

// headIn returns the numbers of the head in a sector, if it contains one.
func headIn(b []byte, i int) (ns [4]int, ok bool) {
	at := 0
	for k := range ns {
		n, size := binary.Uvarint(b[at:60])
		if size <= 0 || n > top {
			return ns, false
		}
		ns[k] = int(n)
		at += size
	}
	return ns, bytes.Equal(b, headOf(ns[0], ns[1], ns[2], ns[3])) && ns[1] >= 1 && ns[3] <= ns[2] && ns[0]%2 == i
}

// words applies the chapter's section 'Words' to a disk.
func words(t *testing.T, d *disk.Disk, ring int) wording {
	t.Helper()
	w := wording{turn: 0, first: 1}
	h0, ok0 := headIn(sector(t, d, 0), 0)
	h1, ok1 := headIn(sector(t, d, 1), 1)
	if ok0 {
		w.turn, w.first, w.gen, w.low = h0[0], h0[1], h0[2], h0[3]
	}
	if ok1 && (!ok0 || h1[0] > h0[0]) {
		w.turn, w.first, w.gen, w.low = h1[0], h1[1], h1[2], h1[3]
	}
	zero := bytes.Equal(sector(t, d, 0), fresh) && bytes.Equal(sector(t, d, 1), fresh)
	w.ok = ok0 || ok1 || zero
	before := w.low
	for seq := w.first; seq < w.first+ring; seq++ {
		gen, r, err := record.Decode(sector(t, d, 2+seq%ring))
		if err != nil || r.Seq != seq || gen < before || gen > w.gen {
			break
		}
		w.held, w.gens = append(w.held, r), append(w.gens, gen)
		before = gen
	}
	return w
}

// wantWords opens a disk, and checks all that can be seen of that against the words.
func wantWords(t *testing.T, d *disk.Disk, ring int) *Journal {
	t.Helper()
	w := words(t, d, ring)
	if !w.ok {
		unopened(t, d, ring, api.ErrSum)
		return nil
	}
	after := contents(t, d)
	after[(w.turn+1)%2] = headOf(min(w.turn+1, top), w.first, min(w.gen+1, top), w.low)
	j := opened(t, d, ring)
	wantHeld(t, j, ring, w.first, w.held...)
	wantContents(t, d, after, 0)
	return j
}

// P6.1: rings from 1 to 512, on a disk that has sectors for more.
func TestOpenRing(t *testing.T) {
	for _, ring := range []int{math.MinInt, -513, -512, -2, -1, 0, 513, 514, 1022, 1023, 1 << 32, math.MaxInt - 1, math.MaxInt} {
		unopened(t, disk.New(api.MaxSectors), ring, api.ErrArg)
	}
	for _, ring := range []int{1, 2, 3, 4, 63, 64, 65, 511, 512} {
		d := disk.New(api.MaxSectors)
		wantHeld(t, opened(t, d, ring), ring, 1)
	}
}

// P6.1: a disk needs 2 + ring sectors.
func TestOpenSectors(t *testing.T) {
	for ring := 1; ring <= 512; ring++ {
		unopened(t, disk.New(1+ring), ring, api.ErrArg)
		wantHeld(t, opened(t, disk.New(2+ring), ring), ring, 1)
	}
	for n := range 3 {
		unopened(t, disk.New(n), 1, api.ErrArg)
		unopened(t, disk.New(n), 0, api.ErrArg)
	}
	unopened(t, disk.New(api.MaxSectors), api.MaxSectors-2, api.ErrArg)
	unopened(t, disk.New(6), 5, api.ErrArg)
	unopened(t, &disk.Disk{}, 1, api.ErrArg)
	unopened(t, nil, 1, api.ErrArg)
	unopened(t, nil, 0, api.ErrArg)
	unopened(t, nil, -3, api.ErrArg)
}

// P6.1: a ring that may not be comes ahead of heads that are none.
func TestOpenErrorOrder(t *testing.T) {
	d := disk.New(6)
	lay(t, d, 0, sealed("spoilt"))
	unopened(t, d, 0, api.ErrArg)
	unopened(t, d, 5, api.ErrArg)
	unopened(t, d, 513, api.ErrArg)
	unopened(t, d, 4, api.ErrSum)
}

// P6.1, P6.2, P6.3: the texts of the faults.
func TestErrorTexts(t *testing.T) {
	d := disk.New(3)
	_, ring := Open(d, 2)
	j := opened(t, d, 1)
	_, kind := j.Append(api.Record{Seq: 7, Kind: 9})
	put(t, d, j, 1, 1, 1, mark(1))
	_, full := j.Append(mark(2))
	lay(t, d, 0, sealed(""))
	lay(t, d, 1, sealed(""))
	_, spoilt := Open(d, 1)
	var none *Journal
	_, absent := none.Append(mark(1))
	cases := []struct {
		err  error
		want string
	}{
		{ring, "journal 2: arg"}, {spoilt, "journal 1: sum"},
		{kind, "journal 1: record 1: arg"}, {full, "journal 2: full"}, {absent, "journal 0: arg"},
		{j.Trim(2), "journal 2: arg"}, {j.Trim(-4), "journal -4: arg"}, {none.Trim(5), "journal 0: arg"},
	}
	for _, c := range cases {
		if c.err == nil || c.err.Error() != c.want {
			t.Errorf("got %v, want %s", c.err, c.want)
		}
	}
}

// P6.1: a fresh disk gets a head of turn 1 in sector 1; each Open takes the next turn,
// and leaves the head before it alone.
func TestOpenTakesTurns(t *testing.T) {
	d := disk.New(6)
	for n := 1; n < 300; n++ {
		opened(t, d, 4)
		wantSector(t, d, n%2, headOf(n, 1, n, 0))
		if n > 1 {
			wantSector(t, d, (n-1)%2, headOf(n-1, 1, n-1, 0))
		} else {
			wantSector(t, d, 0, fresh)
		}
		if d.Loose() != 0 {
			t.Fatalf("Loose = %d after Open", d.Loose())
		}
		d.Crash(0)
	}
}

// P6.1: which head is the current one, by the head that Open saves; by hand.
func TestOpenHeads(t *testing.T) {
	spoilt := headOf(4, 5, 6, 0)
	spoilt[9] ^= 1
	body := headOf(4, 5, 6, 0)[:60]
	type saved struct{ turn, first, gen, low int }
	cases := []struct {
		name string
		zero []byte // sector 0
		one  []byte // sector 1
		want saved  // the head that is saved; none if it is empty
	}{
		{"both all zero", fresh, fresh, saved{1, 1, 1, 0}},
		{"a head in 0", headOf(4, 5, 6, 2), fresh, saved{5, 5, 7, 2}},
		{"a head in 1", fresh, headOf(7, 5, 6, 2), saved{8, 5, 7, 2}},
		{"turn 0", headOf(0, 5, 6, 2), fresh, saved{1, 5, 7, 2}},
		{"both, 1 is newer", headOf(4, 5, 6, 2), headOf(5, 9, 8, 7), saved{6, 9, 9, 7}},
		{"both, 0 is newer", headOf(6, 5, 6, 2), headOf(5, 9, 8, 7), saved{7, 5, 7, 2}},
		{"both, 0 is far newer", headOf(1000, 5, 6, 2), headOf(5, 9, 8, 7), saved{1001, 5, 7, 2}},
		{"both, 1 is far newer", headOf(4, 5, 6, 2), headOf(1<<40+1, 9, 8, 7), saved{1<<40 + 2, 9, 9, 7}},
		{"both, turns 0 and 1", headOf(0, 5, 6, 2), headOf(1, 9, 8, 7), saved{2, 9, 9, 7}},
		{"the newer one has an earlier generation", headOf(4, 5, 60, 50), headOf(5, 3, 2, 1), saved{6, 3, 3, 1}},
		{"0 isn't its turn", headOf(5, 5, 6, 2), fresh, saved{}},
		{"1 isn't its turn", fresh, headOf(4, 5, 6, 2), saved{}},
		{"neither is its turn", headOf(5, 5, 6, 2), headOf(4, 5, 6, 2), saved{}},
		{"the newer one isn't its turn", headOf(4, 5, 6, 2), headOf(6, 9, 8, 7), saved{5, 5, 7, 2}},
		{"the older one isn't its turn", headOf(3, 5, 6, 2), headOf(5, 9, 8, 7), saved{6, 9, 9, 7}},
		{"low is the generation", headOf(4, 5, 6, 6), fresh, saved{5, 5, 7, 6}},
		{"low is above the generation", headOf(4, 5, 6, 7), fresh, saved{}},
		{"low is above, and a head", headOf(4, 5, 6, 7), headOf(3, 9, 8, 7), saved{4, 9, 9, 7}},
		{"low is far above", fresh, headOf(5, 5, 0, top), saved{}},
		{"first is 1", headOf(4, 1, 0, 0), fresh, saved{5, 1, 1, 0}},
		{"first is 0", headOf(4, 0, 6, 2), fresh, saved{}},
		{"first is 0, and a head", headOf(4, 0, 6, 2), headOf(3, 9, 8, 7), saved{4, 9, 9, 7}},
		{"all numbers are 0", headOf(0, 0, 0, 0), fresh, saved{}},
		{"spoilt and fresh", spoilt, fresh, saved{}},
		{"fresh and spoilt", fresh, spoilt, saved{}},
		{"both spoilt", spoilt, spoilt, saved{}},
		{"a head and spoilt", headOf(4, 5, 6, 2), spoilt, saved{5, 5, 7, 2}},
		{"spoilt and a head", spoilt, headOf(3, 9, 8, 7), saved{4, 9, 9, 7}},
		{"the check is zero", append(slices.Clone(body), 0, 0, 0, 0), fresh, saved{}},
		{"all bits are set", bytes.Repeat([]byte{0xff}, 64), fresh, saved{}},
		{"one bit is set", append(make([]byte, 63), 1), fresh, saved{}},
		{"one bit is set in 1", fresh, append([]byte{1}, make([]byte, 63)...), saved{}},
		{"a byte behind the numbers", sealed(numbers(4, 5, 6, 2) + "\x01"), fresh, saved{}},
		{"a last byte behind the numbers", sealed(numbers(4, 5, 6, 2) + strings.Repeat("\x00", 55) + "\x01"), fresh, saved{}},
		{"a fifth number", sealed(numbers(4, 5, 6, 2, 9)), fresh, saved{}},
		{"three numbers", sealed(numbers(4, 5, 6)), fresh, saved{5, 5, 7, 0}},
		{"two numbers", sealed(numbers(4, 5)), fresh, saved{5, 5, 1, 0}},
		{"one number", sealed(numbers(4)), fresh, saved{}},
		{"a long turn", sealed("\x84\x00" + numbers(5, 6, 2)), fresh, saved{}},
		{"a long first", sealed(numbers(4) + "\x85\x00" + numbers(6, 2)), fresh, saved{}},
		{"a long generation", sealed(numbers(4, 5) + "\x86\x00" + numbers(2)), fresh, saved{}},
		{"a long low generation", sealed(numbers(4, 5, 6) + "\x82\x00"), fresh, saved{}},
		{"a low generation of a long 0", sealed(numbers(4, 5, 6) + "\x80\x00"), fresh, saved{}},
		{"a number that doesn't end", sealed(numbers(4, 5, 6) + strings.Repeat("\x80", 57)), fresh, saved{}},
		{"a turn that is too great", sealed(numbers(1<<60, 5, 6, 2)), fresh, saved{}},
		{"a first that is too great", sealed(numbers(4, 1<<60, 6, 2)), fresh, saved{}},
		{"a generation that is too great", sealed(numbers(4, 5, 1<<60, 2)), fresh, saved{}},
		{"great numbers", headOf(top-1, top-2, top-3, top-4), fresh, saved{top, top - 2, top - 2, top - 4}},
	}
	for _, c := range cases {
		t.Run(c.name, func(t *testing.T) {
			d := disk.New(6)
			lay(t, d, 0, c.zero)
			lay(t, d, 1, c.one)
			if c.want == (saved{}) {
				unopened(t, d, 4, api.ErrSum)
				return
			}
			after := contents(t, d)
			after[c.want.turn%2] = headOf(c.want.turn, c.want.first, c.want.gen, c.want.low)
			j := opened(t, d, 4)
			wantHeld(t, j, 4, c.want.first)
			wantContents(t, d, after, 0)
			put(t, d, j, 4, c.want.gen, c.want.first, write("x"))
		})
	}
}

// P6.1: an error leaves unflushed writes unflushed.
func TestOpenErrorFlushesNothing(t *testing.T) {
	d := disk.New(6)
	for i := range 6 {
		d.Write(i, sealed("spoilt"))
	}
	unopened(t, d, 4, api.ErrSum)
	unopened(t, d, 5, api.ErrArg)
	d.Crash(0)
	wantWords(t, d, 4)
}

// P6.1: sectors behind the ring are none of the journal's.
func TestOpenLeavesOtherSectorsAlone(t *testing.T) {
	d := disk.New(9)
	for i := 6; i < 9; i++ {
		lay(t, d, i, sealed("home"))
	}
	j := wantWords(t, d, 4)
	for i := range 9 {
		if j.Room() == 0 {
			if err := j.Trim(3); err != nil {
				t.Fatal(err)
			}
		}
		put(t, d, j, 4, 1, i+1, write("a"))
	}
	j = wantWords(t, d, 4)
	wantHeld(t, j, 4, 7, writes(7, "a", "a", "a")...)
	for i := 6; i < 9; i++ {
		wantSector(t, d, i, sealed("home"))
	}
}

// P6.1: which records are held, by hand: a head with first 5, generation 6 and low
// generation 3 on a ring of 4.
func TestOpenRecords(t *testing.T) {
	a, b, c, e := number(5, write("a")), number(6, mark(9)), number(7, write("")), number(8, write("0123456789abcdef"))
	type laid struct {
		gen int
		r   api.Record
	}
	cases := []struct {
		name string
		laid []laid
		held int // how many of a, b, c, e
	}{
		{"none", nil, 0},
		{"one", []laid{{3, a}}, 1},
		{"all, one generation", []laid{{5, a}, {5, b}, {5, c}, {5, e}}, 4},
		{"all, rising", []laid{{3, a}, {4, b}, {5, c}, {6, e}}, 4},
		{"all, of the head's", []laid{{6, a}, {6, b}, {6, c}, {6, e}}, 4},
		{"all, of the low one", []laid{{3, a}, {3, b}, {3, c}, {3, e}}, 4},
		{"the first one is below the low one", []laid{{2, a}, {3, b}, {3, c}, {3, e}}, 0},
		{"the first one is of generation 0", []laid{{0, a}, {3, b}}, 0},
		{"the first one is above the head's", []laid{{7, a}, {6, b}}, 0},
		{"the last one is above the head's", []laid{{6, a}, {6, b}, {6, c}, {7, e}}, 3},
		{"far above the head's", []laid{{6, a}, {top, b}}, 1},
		{"the second one is earlier", []laid{{5, a}, {4, b}, {5, c}}, 1},
		{"the third one is earlier", []laid{{4, a}, {6, b}, {5, c}, {6, e}}, 2},
		{"the last one is earlier", []laid{{3, a}, {3, b}, {4, c}, {3, e}}, 3},
		{"the first one is lost", []laid{{5, b}, {5, c}, {5, e}}, 0},
		{"the second one is lost", []laid{{5, a}, {5, c}, {5, e}}, 1},
		{"the third one is lost", []laid{{5, a}, {5, b}, {5, e}}, 2},
		{"the first number is dropped", []laid{{5, number(1, a)}, {5, b}}, 0},
		{"the second number is dropped", []laid{{5, a}, {5, number(2, b)}, {5, c}}, 1},
		{"the second number is a later one", []laid{{5, a}, {5, number(10, b)}, {5, c}}, 1},
		{"a number that isn't there", []laid{{5, a}, {5, b}, {5, c}, {5, e}, {5, number(9, a)}}, 0},
	}
	for _, x := range cases {
		t.Run(x.name, func(t *testing.T) {
			d := disk.New(6)
			lay(t, d, 0, headOf(8, 5, 6, 3))
			for _, l := range x.laid {
				layRecord(t, d, 4, l.gen, l.r)
			}
			j := wantWords(t, d, 4)
			wantHeld(t, j, 4, 5, []api.Record{a, b, c, e}[:x.held]...)
		})
	}
}

// P6.1: sectors of the ring that aren't encodings of records end what is held.
func TestOpenSpoiltRecords(t *testing.T) {
	for at := range 4 {
		for _, x := range [][]byte{fresh, sealed(""), sealed("spoilt"), headOf(8, 5, 6, 3), sealed("\x05\x05\x03\x07"), bytes.Repeat([]byte{0xff}, 64)} {
			d := disk.New(6)
			lay(t, d, 0, headOf(8, 5, 6, 3))
			all := writes(5, "a", "b", "c", "d")
			for _, r := range all {
				layRecord(t, d, 4, 5, r)
			}
			lay(t, d, 2+all[at].Seq%4, x)
			wantHeld(t, wantWords(t, d, 4), 4, 5, all[:at]...)
		}
		for bit := range 8 * api.SectorLen {
			d := disk.New(6)
			lay(t, d, 0, headOf(8, 5, 6, 3))
			all := writes(5, "a", "b", "c", "d")
			for _, r := range all {
				layRecord(t, d, 4, 5, r)
			}
			b := sector(t, d, 2+all[at].Seq%4)
			b[bit/8] ^= 1 << (bit % 8)
			lay(t, d, 2+all[at].Seq%4, b)
			wantHeld(t, wantWords(t, d, 4), 4, 5, all[:at]...)
		}
	}
}

// P6.1: without a head, the generations are 0, so that records of generation 0 are held.
func TestOpenWithoutHead(t *testing.T) {
	d := disk.New(5)
	layRecord(t, d, 3, 0, number(1, write("a")))
	layRecord(t, d, 3, 0, number(2, write("b")))
	layRecord(t, d, 3, 1, number(3, write("c")))
	j := wantWords(t, d, 3)
	wantHeld(t, j, 3, 1, writes(1, "a", "b")...)
	put(t, d, j, 3, 1, 3, write("e"))
	if err := j.Trim(2); err != nil {
		t.Fatal(err)
	}
	wantSector(t, d, 0, headOf(2, 3, 1, 0))
	wantHeld(t, j, 3, 3, writes(3, "e")...)
}

// P6.1: Open reads unflushed writes as well, and flushes them with its head.
func TestOpenUnflushed(t *testing.T) {
	d := disk.New(6)
	j := opened(t, d, 4)
	put(t, d, j, 4, 1, 1, write("a"))
	put(t, d, j, 4, 1, 2, write("b"))
	j = wantWords(t, d, 4)
	wantHeld(t, j, 4, 1, writes(1, "a", "b")...)
	d.Crash(0)
	wantHeld(t, wantWords(t, d, 4), 4, 1, writes(1, "a", "b")...)
}

// P6.1: disks of all kinds, made of a few heads and records, against the words.
func TestOpenWording(t *testing.T) {
	random := rand.New(rand.NewSource(1))
	opens, long := 0, 0
	for range 40000 {
		ring := 1 + random.Intn(5)
		d := disk.New(2 + ring + random.Intn(2))
		first := 1 + random.Intn(4)
		for i := range 2 {
			switch random.Intn(6) {
			case 0:
				d.Write(i, sealed(numbers(random.Intn(3), random.Intn(2))))
			case 1:
			default:
				d.Write(i, headOf(random.Intn(6), first+random.Intn(2), random.Intn(5), random.Intn(4)))
			}
		}
		gen := random.Intn(3)
		for seq := first; seq < first+ring; seq++ {
			s := seq
			if random.Intn(10) == 0 {
				s += ring * (random.Intn(3) - 1)
			}
			b, err := record.Encode(gen, number(s, write("x")))
			if err == nil && random.Intn(8) > 0 {
				d.Write(2+seq%ring, b)
			}
			gen += [...]int{0, 0, 0, 1, 1, 2, -1}[random.Intn(7)]
		}
		if j := wantWords(t, d, ring); j != nil {
			opens++
			if len(j.Records()) > 2 {
				long++
			}
		}
	}
	if opens < 1000 || opens > 39000 || long < 100 {
		t.Errorf("%d opened, %d of them with three records: not what this test is made for", opens, long)
	}
}

// P6.1: the rule of layer 1 for a turn of 2^60: the sector is that of the turn that
// would result, and the journal goes on with it.
func TestGreatestTurn(t *testing.T) {
	d := disk.New(6)
	lay(t, d, 1, headOf(top, 5, 6, 3))
	layRecord(t, d, 4, 4, number(5, write("a")))
	layRecord(t, d, 4, 5, number(6, write("b")))
	layRecord(t, d, 4, 6, number(7, write("c")))
	j := wantWords(t, d, 4)
	wantSector(t, d, 0, headOf(top, 5, 7, 3))
	for k, low := range []int{4, 5, 6} {
		if err := j.Trim(1); err != nil {
			t.Fatal(err)
		}
		wantSector(t, d, (k+1)%2, headOf(top, 6+k, 7, low))
	}
	// Sector 0 isn't the turn modulo 2, so the last head that was saved in sector 1 is found.
	wantSector(t, d, 0, headOf(top, 7, 7, 5))
	wantHeld(t, wantWords(t, d, 4), 4, 8)
}

// P6.1, P6.2: in generation 2^60, records are found but not appended.
func TestGreatestGeneration(t *testing.T) {
	d := disk.New(6)
	lay(t, d, 0, headOf(0, 1, top-1, 0))
	layRecord(t, d, 4, top-1, number(1, write("a")))
	layRecord(t, d, 4, top, number(2, write("b")))
	j := wantWords(t, d, 4)
	wantHeld(t, j, 4, 1, writes(1, "a")...)
	put(t, d, j, 4, top, 2, write("c"))
	put(t, d, j, 4, top, 3, write("d"))
	j = wantWords(t, d, 4)
	wantHeld(t, j, 4, 1, writes(1, "a", "c", "d")...)
	before := contents(t, d)
	n, err := j.Append(write("e"))
	wantInvalid(t, err, 4)
	if n != 0 {
		t.Errorf("Append = %d beside an error", n)
	}
	wantContents(t, d, before, 0)
	wantHeld(t, j, 4, 1, writes(1, "a", "c", "d")...)
	if err := j.Trim(2); err != nil {
		t.Fatal(err)
	}
	wantSector(t, d, 1, headOf(3, 3, top, top))
	wantHeld(t, wantWords(t, d, 4), 4, 3, writes(3, "d")...)
}

// P6.2, P6.3: behind the greatest number, no record is valid.
func TestGreatestNumber(t *testing.T) {
	d := disk.New(6)
	lay(t, d, 0, headOf(0, top-1, 1, 1))
	j := wantWords(t, d, 4)
	put(t, d, j, 4, 2, top-1, write("a"))
	put(t, d, j, 4, 2, top, write("b"))
	for range 2 {
		_, err := j.Append(write("c"))
		wantInvalid(t, err, top+1)
	}
	wantHeld(t, j, 4, top-1, writes(top-1, "a", "b")...)
	j = wantWords(t, d, 4)
	wantHeld(t, j, 4, top-1, writes(top-1, "a", "b")...)
	if err := j.Trim(2); err != nil {
		t.Fatal(err)
	}
	wantSector(t, d, 1, headOf(3, top, 3, 2))
	wantHeld(t, j, 4, top+1)
	// The number that was encoded is one below, so that the last record is found once more.
	wantHeld(t, wantWords(t, d, 4), 4, top, writes(top, "b")...)
}

// P6.2: numbers go on from record to record, whatever Seq was passed, and the ring is
// gone round.
func TestAppend(t *testing.T) {
	for _, ring := range []int{1, 2, 3, 5, 8} {
		d := disk.New(2 + ring)
		j := opened(t, d, ring)
		var all []api.Record
		for n := range 5 * ring {
			if j.Room() == 0 {
				wantHeld(t, j, ring, n-ring+1, all[n-ring:]...)
				_, err := j.Append(write("x"))
				wantFault(t, err, n+1, api.ErrFull)
				if err := j.Trim(1); err != nil {
					t.Fatal(err)
				}
			}
			r := mark(n + 1)
			if n%3 > 0 {
				r = api.Record{Kind: api.Write, Block: n % api.Blocks, Data: strings.Repeat("z", n%17)}
			}
			r.Seq = []int{0, 1, n, -7, top, math.MaxInt, math.MinInt}[n%7]
			put(t, d, j, ring, 1, n+1, r)
			all = append(all, number(n+1, r))
		}
		wantHeld(t, wantWords(t, d, ring), ring, 4*ring+1, all[4*ring:]...)
	}
}

// P6.2: records that aren't valid change nothing, and come behind a journal that is full.
func TestAppendErrors(t *testing.T) {
	invalid := []api.Record{
		{}, {Seq: 1}, {Kind: 3}, {Kind: -1}, {Kind: math.MaxInt}, {Kind: math.MinInt},
		{Kind: api.Write, Block: -1}, {Kind: api.Write, Block: api.Blocks}, {Kind: api.Write, Block: math.MinInt},
		{Kind: api.Write, Data: strings.Repeat("x", 17)}, {Kind: api.Write, Data: strings.Repeat("x", 1000)},
		{Kind: api.Write, Number: 1}, {Kind: api.Write, Number: -1},
		{Kind: api.Mark}, {Kind: api.Mark, Number: -1}, {Kind: api.Mark, Number: top + 1}, {Kind: api.Mark, Number: math.MinInt},
		{Kind: api.Mark, Number: 1, Block: 1}, {Kind: api.Mark, Number: 1, Data: "x"},
	}
	d := disk.New(5)
	j := opened(t, d, 3)
	var held []api.Record
	for n := range 4 {
		before, loose := contents(t, d), d.Loose()
		for _, r := range invalid {
			r.Seq = n + 5
			got, err := j.Append(r)
			if n == 3 {
				wantFault(t, err, 4, api.ErrFull)
			} else {
				wantInvalid(t, err, n+1)
			}
			if got != 0 {
				t.Fatalf("Append(%#v) = %d beside an error", r, got)
			}
		}
		wantContents(t, d, before, loose)
		wantHeld(t, j, 3, 1, held...)
		if n < 3 {
			put(t, d, j, 3, 1, n+1, mark(n+1))
			held = append(held, number(n+1, mark(n+1)))
		}
	}
}

// P6.2: a journal that is full takes records again once some are dropped; rings of 1
// and of 512.
func TestAppendFull(t *testing.T) {
	for _, ring := range []int{1, 512} {
		d := disk.New(2 + ring)
		j := opened(t, d, ring)
		for n := range ring {
			if got, err := j.Append(mark(1)); got != n+1 || err != nil {
				t.Fatalf("Append = %d, %v, want %d", got, err, n+1)
			}
		}
		for range 3 {
			n, err := j.Append(mark(1))
			wantFault(t, err, ring+1, api.ErrFull)
			if n != 0 || j.Room() != 0 || len(j.Records()) != ring || d.Loose() != ring {
				t.Fatalf("%d, Room %d, %d held, Loose %d", n, j.Room(), len(j.Records()), d.Loose())
			}
		}
		if err := j.Trim(1); err != nil {
			t.Fatal(err)
		}
		put(t, d, j, ring, 1, ring+1, mark(2))
		if j = wantWords(t, d, ring); j.Room() != 0 || j.Next() != ring+2 {
			t.Errorf("Room %d, Next %d", j.Room(), j.Next())
		}
	}
}

// P6.2: Flush makes durable what was appended; without it, a crash undoes it.
func TestFlush(t *testing.T) {
	d := disk.New(6)
	j := opened(t, d, 4)
	put(t, d, j, 4, 1, 1, write("a"))
	put(t, d, j, 4, 1, 2, write("b"))
	before := contents(t, d)
	j.Flush()
	wantContents(t, d, before, 0)
	wantHeld(t, j, 4, 1, writes(1, "a", "b")...)
	j.Flush()
	put(t, d, j, 4, 1, 3, write("c"))
	d.Crash(0)
	wantContents(t, d, before, 0)
	wantHeld(t, wantWords(t, d, 4), 4, 1, writes(1, "a", "b")...)
}

// P6.3: Trim of 0 does nothing, not even flush; out of range it is an error.
func TestTrimErrors(t *testing.T) {
	d := disk.New(6)
	j := opened(t, d, 4)
	for n := range 5 {
		before, loose := contents(t, d), d.Loose()
		held := j.Records()
		for _, k := range []int{-1, -2, -4, math.MinInt, n + 1, n + 2, 5, 512, 1 << 60, math.MaxInt} {
			wantFault(t, j.Trim(k), k, api.ErrArg)
		}
		if err := j.Trim(0); err != nil {
			t.Fatalf("Trim(0) = %v", err)
		}
		wantContents(t, d, before, loose)
		wantHeld(t, j, 4, 1, held...)
		if n < 4 {
			put(t, d, j, 4, 1, n+1, write("x"))
		}
	}
	if d.Loose() != 4 {
		t.Errorf("Loose = %d", d.Loose())
	}
}

// P6.3: Trim of each number of records, of several generations: what is left, the head,
// and that all of it is durable.
func TestTrim(t *testing.T) {
	gens := []int{0, 1, 1, 3, 3, 4}
	all := writes(1, "a", "b", "c", "d", "e")
	for k := 1; k <= 5; k++ {
		d := disk.New(8)
		j := opened(t, d, 6)
		put(t, d, j, 6, 1, 1, all[0])
		put(t, d, j, 6, 1, 2, all[1])
		opened(t, d, 6)
		j = opened(t, d, 6)
		put(t, d, j, 6, 3, 3, all[2])
		put(t, d, j, 6, 3, 4, all[3])
		j = opened(t, d, 6)
		put(t, d, j, 6, 4, 5, all[4])
		after := contents(t, d)
		after[1] = headOf(5, 1+k, 4, gens[k])
		if err := j.Trim(k); err != nil {
			t.Fatalf("Trim(%d) = %v", k, err)
		}
		wantContents(t, d, after, 0)
		wantHeld(t, j, 6, 1+k, all[k:]...)
		d.Crash(0)
		wantContents(t, d, after, 0)
		wantHeld(t, wantWords(t, d, 6), 6, 1+k, all[k:]...)
		wantSector(t, d, 0, headOf(6, 1+k, 5, gens[k]))
	}
}

// P6.3: one Trim after the other: the low generation stays when nothing newer is dropped,
// heads take turns, and numbers go on.
func TestTrimAgain(t *testing.T) {
	d := disk.New(6)
	j := opened(t, d, 4)
	turn, next := 1, 1
	var held []api.Record
	for n := range 60 {
		for len(held) < 1+n%4 {
			put(t, d, j, 4, 1, next, mark(next))
			held = append(held, number(next, mark(next)))
			next++
		}
		k := len(held) - n%2
		if err := j.Trim(k); err != nil {
			t.Fatalf("Trim(%d) = %v", k, err)
		}
		held = held[k:]
		if k > 0 {
			turn++
		}
		wantSector(t, d, turn%2, headOf(turn, next-len(held), 1, 1))
		wantHeld(t, j, 4, next-len(held), held...)
	}
	wantHeld(t, wantWords(t, d, 4), 4, next-len(held), held...)
	if next < 100 {
		t.Errorf("only %d records", next)
	}
}

// P6.4: a nil journal, and a zero one, which nothing is said of but that it must not panic.
func TestNilJournal(t *testing.T) {
	var j *Journal
	for _, r := range []api.Record{{}, write("a"), mark(1), number(5, mark(1)), {Kind: 9}} {
		n, err := j.Append(r)
		wantFault(t, err, 0, api.ErrArg)
		if n != 0 {
			t.Errorf("Append = %d", n)
		}
	}
	for _, k := range []int{math.MinInt, -1, 0, 1, 2, math.MaxInt} {
		wantFault(t, j.Trim(k), 0, api.ErrArg)
	}
	j.Flush()
	if len(j.Records()) != 0 || j.Next() != 0 || j.Room() != 0 {
		t.Errorf("Records %v, Next %d, Room %d", j.Records(), j.Next(), j.Room())
	}
	zero := &Journal{}
	zero.Flush()
	if n, err := zero.Append(mark(1)); n != 0 || err == nil {
		t.Errorf("Append = %d, %v", n, err)
	}
	if zero.Trim(1) == nil || zero.Trim(-1) == nil || len(zero.Records()) != 0 {
		t.Errorf("a zero journal holds %v", zero.Records())
	}
}

// P6.4, R3: Records is new memory for each call, before and behind a Trim.
func TestRecordsAreNew(t *testing.T) {
	d := disk.New(6)
	j := opened(t, d, 4)
	if len(j.Records()) != 0 {
		t.Errorf("Records = %v", j.Records())
	}
	all := writes(1, "a", "b", "c")
	for _, r := range all {
		put(t, d, j, 4, 1, r.Seq, r)
	}
	first, second := j.Records(), j.Records()
	_ = append(first, number(9, mark(9)))
	clear(first)
	wantHeld(t, j, 4, 1, all...)
	if err := j.Trim(1); err != nil {
		t.Fatal(err)
	}
	put(t, d, j, 4, 1, 4, write("d"))
	if !slices.Equal(second, all) {
		t.Errorf("Records was changed behind the call: %v", second)
	}
	wantHeld(t, j, 4, 2, writes(2, "b", "c", "d")...)
}

// R6: journals of two disks don't know of each other, and the same calls answer the same.
func TestJournalsAreApart(t *testing.T) {
	d, e := disk.New(6), disk.New(6)
	j, k := opened(t, d, 4), opened(t, e, 4)
	put(t, d, j, 4, 1, 1, write("a"))
	put(t, e, k, 4, 1, 1, write("b"))
	put(t, d, j, 4, 1, 2, write("c"))
	wantHeld(t, j, 4, 1, writes(1, "a", "c")...)
	wantHeld(t, k, 4, 1, writes(1, "b")...)
	put(t, e, k, 4, 1, 2, write("c"))
	for _, x := range []*Journal{j, k} {
		if err := x.Trim(1); err != nil {
			t.Fatal(err)
		}
		wantHeld(t, x, 4, 2, writes(2, "c")...)
	}
	wantSector(t, e, 0, sector(t, d, 0))
	wantSector(t, e, 1, sector(t, d, 1))
}
