package disk

import (
	"bytes"
	"errors"
	"math"
	"slices"
	"testing"

	"isobar/api"
	"isobar/fault"
)

// all and none are what a crash keeps when every write survives, and when none does.
const (
	all  = uint64(math.MaxUint64)
	none = uint64(0)
)

// odd are numbers that no disk has a sector of.
var odd = []int{-1, -2, -64, math.MinInt, math.MaxInt, api.MaxSectors, api.MaxSectors + 1}

// fill returns the bytes of a sector: x, and then others that depend on x.
func fill(x byte) []byte {
	b := make([]byte, api.SectorLen)
	for i := range b {
		b[i] = x + byte(i)*7
	}
	return b
}

// put writes fill(x) to sector i.
func put(t *testing.T, d *Disk, i int, x byte) {
	t.Helper()
	if err := d.Write(i, fill(x)); err != nil {
		t.Fatalf("Write(%d) = %v", i, err)
	}
}

// want checks the current contents of sector i.
func want(t *testing.T, d *Disk, i int, b []byte) {
	t.Helper()
	got, err := d.Read(i)
	if err != nil || !bytes.Equal(got, b) {
		t.Fatalf("Read(%d) = % x, %v, want % x", i, got, err, b)
	}
}

// wantFault checks that err is the fault disk, i, directly around e.
func wantFault(t *testing.T, err error, i int, e api.Errno) {
	t.Helper()
	f, ok := err.(*fault.Fault)
	if !ok || f == nil || f.Op != "disk" || f.At != i || f.Err != error(e) {
		t.Fatalf("got %#v, want the fault disk, %d, around %v", err, i, e)
	}
	if fault.Code(err) != e || !errors.Is(err, e) {
		t.Fatalf("%v doesn't have the code %v", err, e)
	}
}

// model is a disk as the chapter words it: the flushed contents of the sectors that
// have any but zero bytes, and the list of unflushed writes.
type model struct {
	stays map[int][]byte
	list  []change
}

type change struct {
	i int
	b []byte
}

func (m *model) read(i int) []byte {
	now := make([]byte, api.SectorLen)
	if b, ok := m.stays[i]; ok {
		now = b
	}
	for _, c := range m.list {
		if c.i == i {
			now = c.b
		}
	}
	return slices.Clone(now)
}

func (m *model) write(i int, b []byte) {
	m.list = append(m.list, change{i, slices.Clone(b)})
}

func (m *model) crash(survives func(k int) bool) {
	if m.stays == nil {
		m.stays = map[int][]byte{}
	}
	for k, c := range m.list {
		if survives(k) {
			m.stays[c.i] = c.b
		}
	}
	m.list = nil
}

// bit reports whether bit k modulo 64 of keep is set, counted by halving.
func bit(keep uint64, k int) bool {
	for range k % 64 {
		keep /= 2
	}
	return keep%2 == 1
}

// same checks all that can be asked of d against m.
func same(t *testing.T, d *Disk, n int, m *model) {
	t.Helper()
	if d.Len() != n || d.Loose() != len(m.list) {
		t.Fatalf("Len %d, Loose %d, want %d, %d", d.Len(), d.Loose(), n, len(m.list))
	}
	for i := range n {
		want(t, d, i, m.read(i))
	}
}

// P4.1: the number of sectors, and that of a number out of range.
func TestNewLen(t *testing.T) {
	cases := []struct{ sectors, len int }{
		{math.MinInt, 0}, {-1024, 0}, {-2, 0}, {-1, 0}, {0, 0}, {1, 1}, {2, 2}, {63, 63}, {64, 64}, {65, 65},
		{api.MaxSectors - 1, 1023}, {api.MaxSectors, 1024}, {api.MaxSectors + 1, 1024},
		{9999, 1024}, {1 << 32, 1024}, {math.MaxInt, 1024},
	}
	for _, c := range cases {
		d := New(c.sectors)
		if d == nil {
			t.Fatalf("New(%d) = nil", c.sectors)
		}
		same(t, d, c.len, &model{})
		_, err := d.Read(c.len)
		wantFault(t, err, c.len, api.ErrRange)
	}
}

// P4.1: Loose counts every write, also those of one sector and of the same bytes.
func TestLoose(t *testing.T) {
	d := New(3)
	for k := range 200 {
		if d.Loose() != k {
			t.Fatalf("Loose = %d after %d writes", d.Loose(), k)
		}
		put(t, d, k%2, byte(k/4))
	}
	d.Flush()
	if d.Loose() != 0 {
		t.Errorf("Loose = %d after Flush", d.Loose())
	}
	put(t, d, 2, 1)
	put(t, d, 2, 1)
	if d.Loose() != 2 {
		t.Errorf("Loose = %d after two writes", d.Loose())
	}
	d.Crash(none)
	if d.Loose() != 0 || d.Len() != 3 {
		t.Errorf("Loose = %d, Len = %d after Crash", d.Loose(), d.Len())
	}
}

// P4.2: a write is read at once, and changes its own sector alone.
func TestWriteRead(t *testing.T) {
	for _, n := range []int{1, 2, 65, api.MaxSectors} {
		d, m := New(n), &model{}
		for _, i := range []int{0, n / 2, n - 1, 0} {
			b := fill(byte(i + d.Loose()))
			if err := d.Write(i, b); err != nil {
				t.Fatalf("Write(%d) = %v", i, err)
			}
			m.write(i, b)
			same(t, d, n, m)
		}
		d.Flush()
		m.crash(func(int) bool { return true })
		same(t, d, n, m)
	}
}

// P4.2: of several writes of a sector the last one is read, before and after Flush.
func TestLastWriteCounts(t *testing.T) {
	d := New(2)
	for x := range 100 {
		put(t, d, 0, byte(x))
		put(t, d, 1, byte(2*x))
		put(t, d, 0, byte(x+1))
		want(t, d, 0, fill(byte(x+1)))
		want(t, d, 1, fill(byte(2*x)))
		if x%10 == 9 {
			d.Flush()
			want(t, d, 0, fill(byte(x+1)))
			want(t, d, 1, fill(byte(2*x)))
		}
	}
	put(t, d, 0, 1)
	d.Write(0, make([]byte, api.SectorLen))
	want(t, d, 0, make([]byte, api.SectorLen))
	d.Flush()
	want(t, d, 0, make([]byte, api.SectorLen))
}

// P4.2: the errors of Write, ErrRange first; none of them changes anything (R2).
func TestWriteErrors(t *testing.T) {
	wrong := [][]byte{
		nil, {}, {0}, fill(1)[:63], append(fill(1), 0), make([]byte, 128), make([]byte, 1<<16),
	}
	for _, n := range []int{0, 1, 2, 64, api.MaxSectors} {
		d, m := New(n), &model{}
		if n > 0 {
			put(t, d, 0, 1)
			d.Flush()
			put(t, d, n-1, 2)
			m.stays = map[int][]byte{0: fill(1)}
			m.write(n-1, fill(2))
		}
		for _, i := range append([]int{n, n + 1}, odd...) {
			wantFault(t, d.Write(i, fill(3)), i, api.ErrRange)
			for _, b := range wrong {
				wantFault(t, d.Write(i, b), i, api.ErrRange)
			}
		}
		for _, i := range []int{0, n / 2, n - 1} {
			for _, b := range wrong {
				if n > 0 {
					wantFault(t, d.Write(i, b), i, api.ErrArg)
				}
			}
		}
		same(t, d, n, m)
	}
}

// P4.2: Write takes SectorLen bytes and no other number of them.
func TestWriteLengths(t *testing.T) {
	d := New(1)
	for n := range 3 * api.SectorLen {
		err := d.Write(0, make([]byte, n))
		if n == api.SectorLen && err != nil {
			t.Fatalf("Write of %d bytes = %v", n, err)
		}
		if n != api.SectorLen {
			wantFault(t, err, 0, api.ErrArg)
		}
	}
	if d.Loose() != 1 {
		t.Errorf("Loose = %d", d.Loose())
	}
}

// P4.2: the error of Read, beside which there are no bytes; nothing changes (R2).
func TestReadErrors(t *testing.T) {
	for _, n := range []int{0, 1, 2, 64, api.MaxSectors} {
		d, m := New(n), &model{}
		if n > 0 {
			put(t, d, 0, 5)
			m.write(0, fill(5))
		}
		for _, i := range append([]int{n, n + 1}, odd...) {
			b, err := d.Read(i)
			wantFault(t, err, i, api.ErrRange)
			if len(b) != 0 {
				t.Errorf("Read(%d) = % x beside an error", i, b)
			}
		}
		same(t, d, n, m)
	}
}

// P4.2: the texts of the faults.
func TestErrorTexts(t *testing.T) {
	d := New(2)
	_, read := d.Read(-1)
	cases := []struct {
		err  error
		want string
	}{
		{d.Write(2, fill(1)), "disk 2: range"},
		{d.Write(-3, nil), "disk -3: range"},
		{d.Write(1, fill(1)[:63]), "disk 1: arg"},
		{read, "disk -1: range"},
	}
	for _, c := range cases {
		if c.err == nil || c.err.Error() != c.want {
			t.Errorf("got %v, want %s", c.err, c.want)
		}
	}
}

// P4.2: Flush makes all writes durable, in order, also beyond the 64th.
func TestFlush(t *testing.T) {
	for _, writes := range []int{0, 1, 2, 63, 64, 65, 127, 128, 129, 300} {
		d, m := New(40), &model{}
		for k := range writes {
			put(t, d, k*k%40, byte(k))
			m.write(k*k%40, fill(byte(k)))
		}
		d.Flush()
		m.crash(func(int) bool { return true })
		same(t, d, 40, m)
		d.Flush()
		d.Crash(none)
		d.Crash(all)
		same(t, d, 40, m)
	}
}

// P4.3: the example of the chapter.
func TestCrashExample(t *testing.T) {
	d := New(2)
	d.Write(0, bytes.Repeat([]byte{1}, 64))
	d.Write(1, bytes.Repeat([]byte{2}, 64))
	d.Crash(2)
	want(t, d, 0, make([]byte, 64))
	want(t, d, 1, bytes.Repeat([]byte{2}, 64))
}

// P4.3: up to five writes of two sectors in every order, and every choice of those
// that survive. Bits that belong to no write mean nothing.
func TestCrashEveryChoice(t *testing.T) {
	for writes := range 6 {
		for order := range 1 << writes {
			for keep := range uint64(1) << writes {
				for _, above := range []uint64{0, all << writes} {
					checkCrash(t, writes, order, keep|above)
				}
			}
		}
	}
}

// checkCrash makes that many writes over flushed contents, and a crash; bit k of order
// is the sector of write k.
func checkCrash(t *testing.T, writes, order int, keep uint64) {
	t.Helper()
	d := New(2)
	put(t, d, 0, 100)
	put(t, d, 1, 101)
	d.Flush()
	m := &model{stays: map[int][]byte{0: fill(100), 1: fill(101)}}
	for k := range writes {
		i := order >> k & 1
		put(t, d, i, byte(k))
		m.write(i, fill(byte(k)))
	}
	same(t, d, 2, m)
	d.Crash(keep)
	m.crash(func(k int) bool { return bit(keep, k) })
	same(t, d, 2, m)
}

// P4.3: with one bit set, the writes whose index is that bit modulo 64 survive.
func TestCrashOneBit(t *testing.T) {
	const writes = 200
	for b := range 64 {
		d := New(writes)
		for k := range writes {
			put(t, d, k, byte(k+1))
		}
		d.Crash(1 << b)
		for k := range writes {
			if k%64 == b {
				want(t, d, k, fill(byte(k+1)))
			} else {
				want(t, d, k, make([]byte, api.SectorLen))
			}
		}
	}
}

// P4.3: a bit decides alike on writes 64 apart; of those that survive, the last counts.
func TestCrashBeyond64(t *testing.T) {
	for _, keep := range []uint64{all, none, 1, 2, 3, 1 << 63, all - 1, all >> 1, 0xaaaaaaaaaaaaaaaa, 0x0123456789abcdef} {
		for _, writes := range []int{63, 64, 65, 66, 127, 128, 129, 130, 257} {
			for _, n := range []int{1, 2, 7, 64, 65, 100} {
				d, m := New(n), &model{}
				for k := range writes {
					put(t, d, k%n, byte(k))
					m.write(k%n, fill(byte(k)))
				}
				d.Crash(keep)
				m.crash(func(k int) bool { return bit(keep, k) })
				same(t, d, n, m)
			}
		}
	}
}

// P4.3: indexes are counted from the last flush or crash on, failed writes not at all.
func TestCrashIndexes(t *testing.T) {
	restarts := map[string]func(d *Disk){
		"Flush":       func(d *Disk) { d.Flush() },
		"Crash(none)": func(d *Disk) { d.Crash(none) },
		"Crash(all)":  func(d *Disk) { d.Crash(all) },
	}
	for name, restart := range restarts {
		d := New(3)
		put(t, d, 2, 9)
		restart(d)
		d.Write(3, fill(1))
		d.Write(0, nil)
		put(t, d, 0, 1)
		d.Write(-1, fill(1))
		put(t, d, 1, 2)
		d.Crash(1)
		if got, _ := d.Read(0); !bytes.Equal(got, fill(1)) {
			t.Errorf("%s: the first write is lost", name)
		}
		want(t, d, 1, make([]byte, api.SectorLen))
	}
}

// P4.3: a crash that keeps all is a flush; one that keeps none undoes all writes.
func TestCrashAllAndNone(t *testing.T) {
	for writes := range 140 {
		kept, lost, flushed := New(9), New(9), New(9)
		for _, d := range []*Disk{kept, lost, flushed} {
			put(t, d, 4, 77)
			d.Flush()
			for k := range writes {
				put(t, d, k*k%9, byte(k))
			}
		}
		kept.Crash(all)
		lost.Crash(none)
		flushed.Flush()
		m := &model{stays: map[int][]byte{4: fill(77)}}
		same(t, lost, 9, m)
		for i := range 9 {
			b, _ := flushed.Read(i)
			want(t, kept, i, b)
		}
		if kept.Loose() != 0 || flushed.Loose() != 0 {
			t.Fatalf("Loose = %d, %d", kept.Loose(), flushed.Loose())
		}
	}
}

// P4.4: what was flushed stays through crashes, and through lost writes of its sector,
// until a write of it survives. What a crash left is durable as well.
func TestFlushedStays(t *testing.T) {
	d := New(2)
	put(t, d, 0, 1)
	d.Flush()
	for _, keep := range []uint64{all, none, 1, 2, 1 << 63} {
		d.Crash(keep)
		want(t, d, 0, fill(1))
		put(t, d, 0, 2)
		want(t, d, 0, fill(2))
		put(t, d, 1, 3)
		d.Crash(none)
		want(t, d, 0, fill(1))
		want(t, d, 1, make([]byte, api.SectorLen))
	}
	put(t, d, 1, 4)
	put(t, d, 0, 5)
	d.Crash(2)
	for range 3 {
		want(t, d, 0, fill(5))
		want(t, d, 1, make([]byte, api.SectorLen))
		d.Crash(none)
		d.Flush()
	}
}

// P4.4: a nil Disk and a zero Disk have no sectors, whatever is called on them (R1).
func TestNoDisk(t *testing.T) {
	for _, d := range []*Disk{nil, {}, New(0), New(-1)} {
		for range 2 {
			if d.Len() != 0 || d.Loose() != 0 {
				t.Fatalf("Len %d, Loose %d", d.Len(), d.Loose())
			}
			for _, i := range append([]int{0, 1, 63}, odd...) {
				b, err := d.Read(i)
				wantFault(t, err, i, api.ErrRange)
				if len(b) != 0 {
					t.Errorf("Read(%d) = % x", i, b)
				}
				wantFault(t, d.Write(i, fill(1)), i, api.ErrRange)
				wantFault(t, d.Write(i, nil), i, api.ErrRange)
			}
			d.Flush()
			d.Crash(all)
			d.Crash(none)
		}
	}
}

// P4.1 to P4.4: long runs of calls that look random, against the model.
func TestRuns(t *testing.T) {
	for run := range 60 {
		seed := uint64(run)
		next := func() uint64 {
			seed = seed*6364136223846793005 + 1442695040888963407
			return seed ^ seed>>29
		}
		n := 1 + run%5
		d, m := New(n), &model{}
		for range 300 {
			switch op := next() % 40; op {
			case 0:
				d.Flush()
				m.crash(func(int) bool { return true })
			case 1:
				keep := next()
				d.Crash(keep)
				m.crash(func(k int) bool { return bit(keep, k) })
			case 2:
				d.Write(n, fill(1))
				d.Write(0, fill(1)[:api.SectorLen-1])
			default:
				i, x := int(next()%uint64(n)), byte(next())
				put(t, d, i, x)
				m.write(i, fill(x))
			}
			same(t, d, n, m)
		}
	}
}

// R3: what is written may be changed afterwards; it isn't changed by the disk, and
// nothing beyond its length is touched or read.
func TestWrittenIsCopied(t *testing.T) {
	d := New(2)
	back := bytes.Repeat([]byte{0xee}, 3*api.SectorLen)
	b := back[api.SectorLen : 2*api.SectorLen]
	copy(b, fill(1))
	before := slices.Clone(back)
	d.Write(0, b)
	d.Write(1, b)
	d.Write(0, b[:api.SectorLen-1])
	d.Write(2, b)
	d.Crash(1)
	d.Write(1, b)
	if !bytes.Equal(back, before) {
		t.Error("an argument was changed")
	}
	clear(back)
	want(t, d, 0, fill(1))
	want(t, d, 1, fill(1))
	d.Flush()
	want(t, d, 0, fill(1))
	want(t, d, 1, fill(1))
}

// R3: what is read may be changed, and appended to, without changing the disk or what
// was read elsewhere; and what was read stays as it was when the disk changes.
func TestReadIsCopied(t *testing.T) {
	d := New(3)
	put(t, d, 0, 1)
	d.Flush()
	put(t, d, 1, 2)
	held := map[int][]byte{0: fill(1), 1: fill(2), 2: make([]byte, api.SectorLen)}
	for i, b := range held {
		got, _ := d.Read(i)
		again, _ := d.Read(i)
		_ = append(got, fill(9)...)
		for k := range got {
			got[k] = ^got[k]
		}
		if !bytes.Equal(again, b) {
			t.Errorf("two results of Read(%d) share memory", i)
		}
	}
	old := map[int][]byte{}
	for i, b := range held {
		want(t, d, i, b)
		old[i], _ = d.Read(i)
	}
	for i := range 3 {
		put(t, d, i, 7)
	}
	d.Flush()
	for i, b := range held {
		if !bytes.Equal(old[i], b) {
			t.Errorf("what Read(%d) gave has changed", i)
		}
	}
}

// R6: a disk knows nothing of another one, and asking it changes nothing.
func TestDisksAreApart(t *testing.T) {
	a, b := New(2), New(2)
	put(t, a, 0, 1)
	put(t, b, 1, 2)
	a.Flush()
	put(t, a, 1, 3)
	b.Crash(none)
	for range 2 {
		want(t, a, 0, fill(1))
		want(t, a, 1, fill(3))
		same(t, b, 2, &model{})
		if a.Loose() != 1 || a.Len() != 2 {
			t.Errorf("Loose %d, Len %d", a.Loose(), a.Len())
		}
	}
}
