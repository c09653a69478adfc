package record

import (
	"bytes"
	"encoding/binary"
	"errors"
	"hash/crc32"
	"math"
	"math/bits"
	"strings"
	"testing"

	"isobar/api"
	"isobar/fault"
	"isobar/sum"
)

// top is the greatest number, as chapter 1 words it.
const top = 1<<60 - 1

// topBytes is the encoding of top.
const topBytes = "\xff\xff\xff\xff\xff\xff\xff\xff\x0f"

// full is data of as many bytes as a block has.
const full = "0123456789abcdef"

// sealed returns the sector that begins with these bytes, by Go's own checksum.
func sealed(body string) []byte {
	b := make([]byte, 60, 64)
	if copy(b, body) != len(body) {
		panic("a body that is longer than a sector")
	}
	c := crc32.Checksum(b, crc32.MakeTable(crc32.Castagnoli))
	return binary.LittleEndian.AppendUint32(b, c)
}

// wording returns the encoding of a record as the chapter words it, by Go's own varints.
func wording(gen int, r api.Record) []byte {
	var b []byte
	numbers := []int{gen, r.Seq, r.Kind}
	if r.Kind == api.Write {
		numbers = append(numbers, r.Block, len(r.Data))
	} else {
		numbers = append(numbers, r.Number)
	}
	for _, n := range numbers {
		b = binary.AppendUvarint(b, uint64(n))
	}
	return sealed(string(b) + r.Data)
}

// valid is the chapter's sentence on valid records.
func valid(r api.Record) bool {
	if r.Seq < 1 || r.Seq > top {
		return false
	}
	write := r.Kind == 1 && r.Block >= 0 && r.Block <= 7 && len(r.Data) <= 16 && r.Number == 0
	mark := r.Kind == 2 && r.Number >= 1 && r.Number <= top && r.Block == 0 && len(r.Data) == 0
	return write || mark
}

// write and mark return records that are valid for valid values.
func write(seq, block int, data string) api.Record {
	return api.Record{Seq: seq, Kind: api.Write, Block: block, Data: data}
}

func mark(seq, number int) api.Record {
	return api.Record{Seq: seq, Kind: api.Mark, Number: number}
}

// known are records with the beginnings of their encodings, worked out by hand.
var known = []struct {
	gen  int
	r    api.Record
	want string
}{
	{2, mark(1, 7), "\x02\x01\x02\x07"},
	{0, mark(1, 1), "\x00\x01\x02\x01"},
	{127, mark(128, 300), "\x7f\x80\x01\x02\xac\x02"},
	{top, mark(top, top), topBytes + topBytes + "\x02" + topBytes},
	{0, write(300, 7, "ab"), "\x00\xac\x02\x01\x07\x02ab"},
	{0, write(1, 0, ""), "\x00\x01\x01\x00\x00"},
	{1, write(2, 3, "\x00"), "\x01\x02\x01\x03\x01\x00"},
	{1, write(2, 3, "\x00\xff\x80\x00"), "\x01\x02\x01\x03\x04\x00\xff\x80\x00"},
	{5, write(6, 7, full), "\x05\x06\x01\x07\x10" + full},
	{top, write(top, 7, full), topBytes + topBytes + "\x01\x07\x10" + full},
}

// invalid are records of which one thing is wrong, and some of which all is.
var invalid = []api.Record{
	{},
	{Seq: 1},
	{Number: 1},
	write(0, 0, ""), write(-1, 0, ""), write(math.MinInt, 0, ""), write(top+1, 0, ""), write(math.MaxInt, 0, ""),
	write(1, -1, ""), write(1, -8, ""), write(1, math.MinInt, ""), write(1, api.Blocks, ""), write(1, math.MaxInt, ""),
	write(1, 0, full+"g"), write(1, 7, strings.Repeat("x", 60)), write(1, 0, strings.Repeat("x", 100000)),
	{Seq: 1, Kind: api.Write, Number: 1}, {Seq: 1, Kind: api.Write, Number: -1}, {Seq: 1, Kind: api.Write, Data: "a", Number: top},
	mark(0, 1), mark(-1, 1), mark(math.MinInt, 1), mark(top+1, 1), mark(math.MaxInt, 1),
	mark(1, 0), mark(1, -1), mark(1, math.MinInt), mark(1, top+1), mark(1, math.MaxInt),
	{Seq: 1, Kind: api.Mark, Number: 1, Block: 1}, {Seq: 1, Kind: api.Mark, Number: 1, Block: -1}, {Seq: 1, Kind: api.Mark, Number: 1, Block: 7},
	{Seq: 1, Kind: api.Mark, Number: 1, Data: "a"}, {Seq: 1, Kind: api.Mark, Number: 1, Data: "\x00"},
	{Seq: 1, Kind: 3}, {Seq: 1, Kind: 3, Number: 1}, {Seq: 1, Kind: -1}, {Seq: 1, Kind: -2, Number: 1},
	{Seq: 1, Kind: 1 << 32}, {Seq: 1, Kind: 257}, {Seq: 1, Kind: 258, Number: 1},
	{Seq: 1, Kind: math.MaxInt}, {Seq: 1, Kind: math.MinInt},
	{Seq: -5, Kind: 9, Block: 99, Data: full + full, Number: -7},
}

// wrongGens are generations that are no numbers.
var wrongGens = []int{-1, -2, math.MinInt, top + 1, top + 2, 1 << 61, math.MaxInt}

// samples calls do for generations and valid records of both kinds, with numbers and
// data of every length.
func samples(do func(gen int, r api.Record)) {
	numbers := []int{top}
	for bit := range 60 {
		numbers = append(numbers, 1<<bit, 1<<bit+1, max(1<<bit-1, 1))
	}
	for i, seq := range numbers {
		other := numbers[(i*7+3)%len(numbers)]
		do(0, mark(seq, other))
		do(other, mark(seq, 1))
		do(seq, mark(1, other))
		for n := range api.BlockLen + 1 {
			do(0, write(seq, n%api.Blocks, full[:n]))
			do(other, write(seq, (n+3)%api.Blocks, strings.Repeat("\x00", n)))
			do(seq, write(other, (n+5)%api.Blocks, strings.Repeat("\xff", n)))
		}
	}
}

// wantFault checks that err is the fault record, seq, directly around e.
func wantFault(t *testing.T, err error, seq int, e api.Errno) {
	t.Helper()
	f, ok := err.(*fault.Fault)
	if !ok || f == nil || f.Op != "record" || f.At != seq || f.Err != error(e) {
		t.Fatalf("got %#v, want the fault record, %d, around %v", err, seq, e)
	}
	if fault.Code(err) != e || !errors.Is(err, e) {
		t.Fatalf("%v doesn't have the code %v", err, e)
	}
}

// wantEncoded checks that b is the encoding of r, and that it is decoded to r.
func wantEncoded(t *testing.T, gen int, r api.Record, b []byte) {
	t.Helper()
	got, err := Encode(gen, r)
	if err != nil || !bytes.Equal(got, b) {
		t.Fatalf("Encode(%d, %#v) = % x, %v, want % x", gen, r, got, err, b)
	}
	g, back, err := Decode(b)
	if g != gen || back != r || err != nil {
		t.Fatalf("Decode(% x) = %d, %#v, %v, want %d, %#v", b, g, back, err, gen, r)
	}
}

// wantUnencoded checks that Encode rejects a record.
func wantUnencoded(t *testing.T, gen int, r api.Record) {
	t.Helper()
	b, err := Encode(gen, r)
	wantFault(t, err, r.Seq, api.ErrArg)
	if len(b) != 0 {
		t.Fatalf("Encode(%d, %#v) = % x beside an error", gen, r, b)
	}
}

// wantRejected checks that Decode rejects b with e, and tells nothing beside.
func wantRejected(t *testing.T, b []byte, e api.Errno) {
	t.Helper()
	gen, r, err := Decode(b)
	if err == nil {
		t.Fatalf("Decode(% x) = %d, %#v", b, gen, r)
	}
	wantFault(t, err, 0, e)
	if gen != 0 || r != (api.Record{}) {
		t.Fatalf("Decode(% x) = %d, %#v beside an error", b, gen, r)
	}
}

// P5.1: valid records, and records of which something is wrong.
func TestRightKnown(t *testing.T) {
	for _, c := range known {
		if !Right(c.r) {
			t.Errorf("Right(%#v) = false", c.r)
		}
	}
	for _, r := range invalid {
		if Right(r) {
			t.Errorf("Right(%#v) = true", r)
		}
	}
}

// P5.1: edge values of all fields in all combinations, against the chapter's sentence;
// Encode rejects exactly what Right does.
func TestRightWording(t *testing.T) {
	count := 0
	for _, seq := range []int{math.MinInt, -1, 0, 1, 2, top, top + 1, math.MaxInt} {
		for _, kind := range []int{math.MinInt, -1, 0, 1, 2, 3, math.MaxInt} {
			for _, block := range []int{math.MinInt, -1, 0, 1, 6, 7, 8, math.MaxInt} {
				for _, data := range []string{"", "\x00", "ab", full[:15], full, full + "g"} {
					for _, number := range []int{math.MinInt, -1, 0, 1, 2, top, top + 1, math.MaxInt} {
						r := api.Record{Seq: seq, Kind: kind, Block: block, Data: data, Number: number}
						if Right(r) != valid(r) {
							t.Fatalf("Right(%#v) = %t", r, Right(r))
						}
						if valid(r) {
							count++
							wantEncoded(t, 3, r, wording(3, r))
						} else {
							wantUnencoded(t, 3, r)
						}
					}
				}
			}
		}
	}
	if count != 3*(4*5+3) {
		t.Errorf("%d valid records", count)
	}
}

// P5.1: every block and every length of data, up to beyond their limits.
func TestRightLimits(t *testing.T) {
	for block := -20; block < 300; block++ {
		if want := 0 <= block && block < api.Blocks; Right(write(1, block, "a")) != want {
			t.Errorf("block %d: Right = %t", block, !want)
		}
	}
	for n := range 300 {
		if want := n <= api.BlockLen; Right(write(1, 1, strings.Repeat("\xc3", n))) != want {
			t.Errorf("%d bytes: Right = %t", n, !want)
		}
	}
	// Eight runes of two bytes each, and one more: bytes count, not runes.
	if !Right(write(1, 0, strings.Repeat("é", 8))) || Right(write(1, 0, strings.Repeat("é", 9))) {
		t.Error("runes are counted")
	}
	for kind := -300; kind < 300; kind++ {
		bare := Right(api.Record{Seq: 1, Kind: kind})
		numbered := Right(api.Record{Seq: 1, Kind: kind, Number: 1})
		if bare != (kind == api.Write) || numbered != (kind == api.Mark) {
			t.Errorf("kind %d: Right = %t, with a number %t", kind, bare, numbered)
		}
	}
}

// P5.1: encodings by hand, with zero bytes behind them and the checksum.
func TestEncodeKnown(t *testing.T) {
	for _, c := range known {
		wantEncoded(t, c.gen, c.r, sealed(c.want))
		s, ok := sum.Sector([]byte(c.want))
		if got, _ := Encode(c.gen, c.r); !ok || !bytes.Equal(got, s) {
			t.Errorf("Encode(%d, %#v) isn't layer 2's sector: % x", c.gen, c.r, got)
		}
	}
}

// P5.1: records that aren't valid, and generations that are no numbers.
func TestEncodeErrors(t *testing.T) {
	for _, r := range invalid {
		for _, gen := range append([]int{0, 1, top}, wrongGens...) {
			wantUnencoded(t, gen, r)
		}
	}
	for _, c := range known {
		for _, gen := range wrongGens {
			wantUnencoded(t, gen, c.r)
		}
	}
}

// P5.1, P5.2: the texts of the faults.
func TestErrorTexts(t *testing.T) {
	_, arg := Encode(0, api.Record{Seq: 9})
	_, below := Encode(0, mark(-4, 1))
	_, gen := Encode(-1, mark(12, 1))
	_, _, none := Decode(nil)
	_, _, kind := Decode(sealed("\x02\x01\x03\x07"))
	cases := []struct {
		err  error
		want string
	}{
		{arg, "record 9: arg"}, {below, "record -4: arg"}, {gen, "record 12: arg"},
		{none, "record 0: sum"}, {kind, "record 0: arg"},
	}
	for _, c := range cases {
		if c.err == nil || c.err.Error() != c.want {
			t.Errorf("got %v, want %s", c.err, c.want)
		}
	}
}

// P5.2: bytes that aren't SectorLen, sealed or not.
func TestDecodeLengths(t *testing.T) {
	body := []byte("\x02\x01\x02\x07")
	good := sealed(string(body))
	wantRejected(t, nil, api.ErrSum)
	for n := range 3 * api.SectorLen {
		b := make([]byte, n)
		copy(b, body)
		if n == api.SectorLen-sum.Size {
			wantEncoded(t, 2, mark(1, 7), sum.Seal(b))
		} else {
			wantRejected(t, sum.Seal(b), api.ErrSum)
		}
		wantRejected(t, b, api.ErrSum)
		wantRejected(t, bytes.Repeat([]byte{0xff}, n), api.ErrSum)
	}
	for n := range good {
		wantRejected(t, good[:n], api.ErrSum)
		wantRejected(t, good[n+1:], api.ErrSum)
	}
	wantRejected(t, append(bytes.Clone(good), 0), api.ErrSum)
	wantRejected(t, append([]byte{0}, good...), api.ErrSum)
	wantRejected(t, append(bytes.Clone(good), good...), api.ErrSum)
}

// P5.2: a check that doesn't fit comes ahead of a record that isn't valid.
func TestDecodeChecks(t *testing.T) {
	bodies := []string{"", "\x02\x01\x02\x07", "\x02\x01\x03\x07", "\x00\x01\x01\x00\x00", "\x80", topBytes}
	for _, body := range bodies {
		for at := range api.SectorLen {
			for _, x := range []byte{1, 0x80, 0x55, 0xff} {
				b := sealed(body)
				b[at] ^= x
				wantRejected(t, b, api.ErrSum)
			}
		}
		b := sealed(body)
		b[60], b[61], b[62], b[63] = b[63], b[62], b[61], b[60]
		wantRejected(t, b, api.ErrSum)
	}
	// A fresh sector of a disk.
	wantRejected(t, make([]byte, api.SectorLen), api.ErrSum)
}

// P5.2: sealed sectors that aren't the encoding of a valid record.
func TestDecodeErrors(t *testing.T) {
	bodies := []string{
		"",
		// A Seq of 0, kinds that are none.
		"\x02\x00\x02\x07", "\x00\x00\x01\x00\x00",
		"\x02\x01\x00\x07", "\x02\x01\x03\x07", "\x02\x01\x7f\x07", "\x02\x01\x81\x02\x07", "\x02\x01\x82\x02\x07", "\x02\x01\x00",
		"\x02\x01" + topBytes + "\x07",
		// A Block of Blocks and above, data of one byte more and far too many.
		"\x00\x01\x01\x08\x00", "\x00\x01\x01\x7f\x00", "\x00\x01\x01\x80\x01\x00", "\x00\x01\x01" + topBytes + "\x00",
		"\x00\x01\x01\x07\x11" + full + "g", "\x00\x01\x01\x07\x11", "\x00\x01\x01\x07\x37", "\x00\x01\x01\x07\x38", "\x00\x01\x01\x07\x90\x02" + full,
		"\x00\x01\x01\x07" + topBytes,
		// A Mark of 0.
		"\x02\x01\x02\x00", "\x02\x01\x02",
		// Bytes behind the record.
		"\x02\x01\x02\x07\x01", "\x02\x01\x02\x07\x00\x01", "\x02\x01\x02\x07\x00\x00a",
		"\x00\x01\x01\x00\x00\x01", "\x00\x01\x01\x07\x02abc", "\x00\x01\x01\x07\x02ab\x00\x00\x80", "\x00\x01\x01\x07\x01ab",
		"\x05\x06\x01\x07\x10" + full + "g",
		// Numbers that are longer than they need be.
		"\x82\x00\x01\x02\x07", "\x80\x00\x01\x02\x07", "\x02\x81\x00\x02\x07", "\x02\x01\x82\x00\x07", "\x02\x01\x02\x87\x00",
		"\x02\x01\x02\x87\x80\x00", "\x02\x01\x02\x80\x00", "\x00\x01\x81\x00\x00\x00", "\x00\x01\x01\x80\x00\x00", "\x00\x01\x01\x00\x80\x00", "\x00\x01\x01\x00\x82\x00ab",
		"\x82\x80\x80\x80\x80\x80\x80\x80\x00\x01\x02\x07", "\x82\x80\x80\x80\x80\x80\x80\x80\x80\x00\x01\x02\x07",
		// Numbers that are too great, or don't end.
		"\x80\x80\x80\x80\x80\x80\x80\x80\x10\x01\x02\x07", "\x02\x80\x80\x80\x80\x80\x80\x80\x80\x10\x02\x07",
		"\x02\x01\x02\x80\x80\x80\x80\x80\x80\x80\x80\x10", "\x02\x01\x02\xff\xff\xff\xff\xff\xff\xff\xff\xff\x01",
		strings.Repeat("\x80", 60), strings.Repeat("\xff", 60), "\x02" + strings.Repeat("\x80", 59), "\x02\x01\x02" + strings.Repeat("\xff", 57),
		"\x00\x01\x01\x00" + strings.Repeat("\x80", 56), strings.Repeat("\x01", 60), strings.Repeat("\x02", 60),
	}
	for _, body := range bodies {
		wantRejected(t, sealed(body), api.ErrArg)
	}
}

// P5.2: each byte behind the record must be zero, up to the checksum.
func TestDecodeBytesBehind(t *testing.T) {
	for _, c := range known {
		for at := len(c.want); at < api.SectorLen-sum.Size; at++ {
			for _, x := range []byte{1, 2, 0x10, 0x80, 0xff} {
				body := make([]byte, api.SectorLen-sum.Size)
				copy(body, c.want)
				body[at] = x
				wantRejected(t, sealed(string(body)), api.ErrArg)
			}
		}
	}
}

// P5.3: Decode inverts Encode.
func TestRoundTrip(t *testing.T) {
	samples(func(gen int, r api.Record) {
		wantEncoded(t, gen, r, wording(gen, r))
	})
}

// P5.3: no two records of two generations have the same encoding.
func TestEncodingsDiffer(t *testing.T) {
	type owner struct {
		gen int
		r   api.Record
	}
	owners := map[string]owner{}
	samples(func(gen int, r api.Record) {
		b, _ := Encode(gen, r)
		now := owner{gen, r}
		if old, ok := owners[string(b)]; ok && old != now {
			t.Fatalf("%#v and %#v: % x", old, now, b)
		}
		owners[string(b)] = now
	})
}

// P5.3: all sectors that begin with up to six bytes out of a few: exactly those are
// accepted that are an encoding.
func TestDecodeAcceptsNothingElse(t *testing.T) {
	few := []byte{0, 1, 2, 3, 7, 8, 0x80, 0x81}
	encodings := map[string]int{}
	for _, gen := range []int{0, 1, 2, 3, 7, 8} {
		for _, seq := range []int{1, 2, 3, 7, 8, 128, 129, 256, 257, 384, 385, 896, 897, 1024, 1025} {
			for block := range api.Blocks {
				encodings[string(wording(gen, write(seq, block, "")))] = 1
				encodings[string(wording(gen, write(seq, block, "\x00")))] = 1
			}
			for _, number := range []int{1, 2, 3, 7, 8, 128, 129} {
				encodings[string(wording(gen, mark(seq, number)))] = 1
			}
		}
	}
	accepted, found := 0, 0
	body := make([]byte, 6)
	for x := range 1 << (3 * len(body)) {
		for i := range body {
			body[i] = few[x>>(3*i)&7]
		}
		b := sealed(string(body))
		gen, r, err := Decode(b)
		if err != nil {
			wantFault(t, err, 0, api.ErrArg)
			if encodings[string(b)] == 1 {
				t.Fatalf("Decode(% x) = %v", b, err)
			}
			continue
		}
		accepted++
		found += encodings[string(b)]
		if !valid(r) || gen < 0 || !bytes.Equal(b, wording(gen, r)) {
			t.Fatalf("Decode(% x) = %d, %#v", b, gen, r)
		}
	}
	if accepted == 0 || found == 0 {
		t.Errorf("%d accepted, %d of them found", accepted, found)
	}
}

// P5.3: one byte of an encoding changed and sealed again: another record, or none.
func TestDecodeChangedBytes(t *testing.T) {
	for _, c := range known {
		for at := range len(c.want) {
			for x := range 256 {
				body := []byte(c.want)
				body[at] = byte(x)
				b := sealed(string(body))
				gen, r, err := Decode(b)
				if err != nil {
					wantRejected(t, b, api.ErrArg)
				} else if !valid(r) || !bytes.Equal(b, wording(gen, r)) {
					t.Fatalf("Decode(% x) = %d, %#v", b, gen, r)
				}
			}
		}
	}
}

// invert inverts those bits of b, from a bit on, that are set in the pattern.
func invert(b []byte, from int, pattern uint32) {
	for ; pattern != 0; pattern &= pattern - 1 {
		at := from + bits.TrailingZeros32(pattern)
		b[at/8] ^= 1 << (at % 8)
	}
}

// P5.3: bits inverted within 32 consecutive ones, at every place of the sector.
func TestDecodeRejectsBursts(t *testing.T) {
	for _, c := range known {
		b, _ := Encode(c.gen, c.r)
		for width := 1; width <= 32; width++ {
			ends := uint32(1) | 1<<(width-1)
			all := ^uint32(0) >> (32 - width)
			seed := uint32(width)
			for from := range len(b)*8 - width + 1 {
				seed = seed*1664525 + 1013904223
				for _, pattern := range []uint32{ends, all, (seed^seed>>16)&all | ends} {
					invert(b, from, pattern)
					if _, _, err := Decode(b); fault.Code(err) != api.ErrSum {
						t.Fatalf("%08x from bit %d on: %v", pattern, from, err)
					}
					invert(b, from, pattern)
				}
			}
		}
		wantEncoded(t, c.gen, c.r, b)
	}
}

// R3: Decode leaves its argument alone, reads nothing beyond its length, and its data
// stays when the argument is changed.
func TestDecodeLeavesArgumentAlone(t *testing.T) {
	for _, c := range known {
		back := bytes.Repeat([]byte{0xee}, 3*api.SectorLen)
		b := back[api.SectorLen : 2*api.SectorLen]
		copy(b, sealed(c.want))
		before := bytes.Clone(back)
		gen, r, err := Decode(b)
		wantRejected(t, b[:api.SectorLen-1], api.ErrSum)
		wantRejected(t, b[:0], api.ErrSum)
		if !bytes.Equal(back, before) {
			t.Fatal("an argument was changed")
		}
		clear(back)
		if gen != c.gen || r != c.r || err != nil {
			t.Errorf("Decode = %d, %#v, %v, want %d, %#v", gen, r, err, c.gen, c.r)
		}
	}
}

// R3, R6: an encoding is new memory, the same for every call.
func TestEncodingsAreNew(t *testing.T) {
	for _, c := range known {
		first, _ := Encode(c.gen, c.r)
		second, _ := Encode(c.gen, c.r)
		_ = append(first, full...)
		for i := range first {
			first[i] = ^first[i]
		}
		if !bytes.Equal(second, sealed(c.want)) {
			t.Errorf("two encodings share memory: % x", second)
		}
		wantEncoded(t, c.gen, c.r, sealed(c.want))
	}
}
