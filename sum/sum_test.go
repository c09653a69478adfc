package sum

import (
	"bytes"
	"hash/crc32"
	"math/bits"
	"testing"

	"isobar/api"
)

// slowOf is the checksum as the chapter words it, bit by bit.
func slowOf(b []byte) uint32 {
	c := ^uint32(0)
	for _, x := range b {
		c ^= uint32(x)
		for range 8 {
			out := c & 1
			c >>= 1
			if out == 1 {
				c ^= 0x82f63b78
			}
		}
	}
	return ^c
}

// noise returns n bytes that look random and are the same in every run.
func noise(n int, seed uint32) []byte {
	b := make([]byte, n)
	for i := range b {
		seed = seed*1664525 + 1013904223
		b[i] = byte(seed >> 24)
	}
	return b
}

// samples are byte sequences of many lengths, up to beyond a sector.
func samples() [][]byte {
	out := [][]byte{nil, {}, []byte("123456789")}
	for n := range 2*api.SectorLen + 2 {
		out = append(out, make([]byte, n), bytes.Repeat([]byte{0xff}, n), noise(n, uint32(n)))
	}
	for x := range 256 {
		out = append(out, []byte{byte(x)})
	}
	return append(out, noise(100000, 7))
}

// P2.1: checksums that are published, or worked out by hand.
func TestOfKnown(t *testing.T) {
	up, down := make([]byte, 32), make([]byte, 32)
	for i := range up {
		up[i], down[31-i] = byte(i), byte(i)
	}
	cases := []struct {
		in   []byte
		want uint32
	}{
		{nil, 0},
		{[]byte{}, 0},
		{[]byte("a"), 0xc1d04330},
		{[]byte("123456789"), 0xe3069283},
		{make([]byte, 32), 0x8a9136aa},
		{bytes.Repeat([]byte{0xff}, 32), 0x62a8ab43},
		{up, 0x46dd794e},
		{down, 0x113fdb5c},
		{[]byte{0xff, 0xff, 0xff, 0xff}, 0xffffffff},
	}
	for _, c := range cases {
		if got := Of(c.in); got != c.want {
			t.Errorf("Of(% x) = %08x, want %08x", c.in, got, c.want)
		}
	}
}

// P2.1: the checksum against its wording, and against Go's own.
func TestOfWording(t *testing.T) {
	table := crc32.MakeTable(crc32.Castagnoli)
	for _, b := range samples() {
		got := Of(b)
		if want := slowOf(b); got != want {
			t.Fatalf("Of(% x) = %08x, want %08x", b, got, want)
		}
		if want := crc32.Checksum(b, table); got != want {
			t.Fatalf("Of(% x) = %08x, Go has %08x", b, got, want)
		}
	}
}

// P2.1: every sequence of two bytes, so that each half byte meets each other one.
func TestOfTwoBytes(t *testing.T) {
	for x := range 1 << 16 {
		b := []byte{byte(x), byte(x >> 8)}
		if got, want := Of(b), slowOf(b); got != want {
			t.Fatalf("Of(% x) = %08x, want %08x", b, got, want)
		}
	}
}

// P2.1: Size, and what is laid behind the bytes.
func TestSealKnown(t *testing.T) {
	if Size != 4 {
		t.Errorf("Size %d", Size)
	}
	cases := []struct{ in, want string }{
		{"", "\x00\x00\x00\x00"},
		{"a", "a\x30\x43\xd0\xc1"},
		{"123456789", "123456789\x83\x92\x06\xe3"},
		{"\xff\xff\xff\xff", "\xff\xff\xff\xff\xff\xff\xff\xff"},
	}
	for _, c := range cases {
		if got := Seal([]byte(c.in)); string(got) != c.want {
			t.Errorf("Seal(%q) = %q, want %q", c.in, got, c.want)
		}
	}
	if got := Seal(nil); string(got) != "\x00\x00\x00\x00" {
		t.Errorf("Seal(nil) = %q", got)
	}
}

// P2.1: the checksum's bytes, the lowest one first, for all samples.
func TestSealLayout(t *testing.T) {
	for _, b := range samples() {
		c := slowOf(b)
		want := append(bytes.Clone(b), byte(c), byte(c>>8), byte(c>>16), byte(c>>24))
		if got := Seal(b); !bytes.Equal(got, want) {
			t.Fatalf("Seal(% x) = % x, want % x", b, got, want)
		}
	}
}

// P2.1, P2.3: Open inverts Seal, also where what was sealed is sealed itself.
func TestOpenInvertsSeal(t *testing.T) {
	for _, b := range samples() {
		twice := Seal(Seal(b))
		once, ok := Open(twice)
		if !ok || !bytes.Equal(once, Seal(b)) {
			t.Fatalf("Open(% x) = % x, %t", twice, once, ok)
		}
		got, ok := Open(once)
		if !ok || !bytes.Equal(got, b) {
			t.Fatalf("Open(% x) = % x, %t", once, got, ok)
		}
	}
}

// wantClosed checks that Open takes b for unsealed, and tells nothing beside.
func wantClosed(t *testing.T, b []byte) {
	t.Helper()
	if got, ok := Open(b); got != nil || ok {
		t.Fatalf("Open(% x) = % x, %t", b, got, ok)
	}
}

// P2.1: fewer bytes than a checksum, among them the beginnings of a sealed nothing.
func TestOpenTooShort(t *testing.T) {
	wantClosed(t, nil)
	for n := range Size {
		wantClosed(t, make([]byte, n))
		wantClosed(t, bytes.Repeat([]byte{0xff}, n))
		wantClosed(t, noise(n, 3))
		wantClosed(t, Seal([]byte("a"))[:n])
	}
}

// P2.1: bytes that were never sealed, or no longer are.
func TestOpenNeverSealed(t *testing.T) {
	for _, s := range []string{"1234", "12345", "123456789", "\x00\x00\x00\x01", "\x01\x00\x00\x00", "\xff\xff\xff\xff"} {
		wantClosed(t, []byte(s))
	}
	for n := 1; n <= api.SectorLen; n++ {
		wantClosed(t, make([]byte, Size+n))
		b := noise(n, uint32(n))
		sealed := Seal(b)
		wantClosed(t, sealed[1:])
		wantClosed(t, sealed[:len(sealed)-1])
		wantClosed(t, append(bytes.Clone(sealed), 0))
		wantClosed(t, append([]byte{0}, sealed...))
		c := slowOf(b)
		wantClosed(t, append(bytes.Clone(b), byte(c>>24), byte(c>>16), byte(c>>8), byte(c)))
	}
}

// P2.1: the one checksum that opens a sequence is that of its bytes.
func TestOpenOneChecksumOnly(t *testing.T) {
	for x := range 1 << 16 {
		for _, b := range [][]byte{{byte(x), byte(x >> 8), 0, 0}, {0, 0, byte(x), byte(x >> 8)}} {
			got, ok := Open(b)
			if ok != (x == 0) || len(got) != 0 {
				t.Fatalf("Open(% x) = % x, %t", b, got, ok)
			}
		}
	}
}

// P2.2: every length that fits a sector, and lengths that don't.
func TestSector(t *testing.T) {
	const room = api.SectorLen - Size
	for n := range room + 1 {
		for _, b := range [][]byte{make([]byte, n), bytes.Repeat([]byte{0xff}, n), noise(n, uint32(n))} {
			body := append(bytes.Clone(b), make([]byte, room-n)...)
			got, ok := Sector(b)
			if !ok || len(got) != api.SectorLen || !bytes.Equal(got, Seal(body)) {
				t.Fatalf("Sector(% x) = % x, %t", b, got, ok)
			}
			back, ok := Open(got)
			if !ok || !bytes.Equal(back, body) {
				t.Fatalf("Open(% x) = % x, %t", got, back, ok)
			}
		}
	}
	for _, n := range []int{room + 1, room + 2, api.SectorLen, api.SectorLen + 1, 1000} {
		if got, ok := Sector(make([]byte, n)); got != nil || ok {
			t.Errorf("Sector of %d bytes = % x, %t", n, got, ok)
		}
	}
}

// P2.2, R4: a sector of nothing, by hand.
func TestSectorOfNothing(t *testing.T) {
	for _, b := range [][]byte{nil, {}} {
		got, ok := Sector(b)
		c := slowOf(make([]byte, api.SectorLen-Size))
		want := append(make([]byte, api.SectorLen-Size), byte(c), byte(c>>8), byte(c>>16), byte(c>>24))
		if !ok || !bytes.Equal(got, want) {
			t.Errorf("Sector(%v) = % x, %t, want % x", b, got, ok, want)
		}
	}
}

// invert inverts those bits of b, from a bit on, that are set in the pattern.
func invert(b []byte, from int, pattern uint32) {
	for ; pattern != 0; pattern &= pattern - 1 {
		at := from + bits.TrailingZeros32(pattern)
		b[at/8] ^= 1 << (at % 8)
	}
}

// spans returns patterns whose first bit is set, and whose last one is bit width - 1.
func spans(width int) []uint32 {
	ends := uint32(1) | 1<<(width-1)
	all := ^uint32(0) >> (32 - width)
	out := []uint32{ends, all}
	seed := uint32(width)
	for range 6 {
		seed = seed*1664525 + 1013904223
		out = append(out, (seed^seed>>16)&all|ends)
	}
	return out
}

// P2.3: bits inverted within 32 consecutive ones, at every place: at the
// beginning, at the end and across the checksum's border.
func TestOpenRejectsBursts(t *testing.T) {
	sealed := [][]byte{Seal(nil), Seal([]byte("a")), Seal([]byte("123456789")), Seal(noise(31, 5))}
	for _, b := range [][]byte{nil, []byte("isobar"), noise(api.SectorLen-Size, 9)} {
		s, _ := Sector(b)
		sealed = append(sealed, s)
	}
	for _, s := range sealed {
		for width := 1; width <= 32; width++ {
			for from := range len(s)*8 - width + 1 {
				for _, pattern := range spans(width) {
					b := bytes.Clone(s)
					invert(b, from, pattern)
					wantClosed(t, b)
				}
			}
		}
	}
}

// P2.3: all patterns of 16 bits at every place of a short sequence.
func TestOpenRejectsAllShortBursts(t *testing.T) {
	b := Seal([]byte("ab"))
	for from := range len(b)*8 - 15 {
		for pattern := uint32(1); pattern < 1<<16; pattern++ {
			invert(b, from, pattern)
			if got, ok := Open(b); got != nil || ok {
				t.Fatalf("Open took %04x from bit %d on: % x", pattern, from, got)
			}
			invert(b, from, pattern)
		}
	}
}

// P2.3: 33 bits are one too many: inverting the polynomial's own bits goes
// unnoticed, and only in the order of bits that the chapter gives.
func TestOpenTakesThePolynomial(t *testing.T) {
	text := []byte("123456789")
	for from := range (len(text)+Size)*8 - 32 {
		b := Seal(text)
		invert(b, from, 1)
		invert(b, from+1, 0x82f63b78)
		if _, ok := Open(b); !ok || bytes.Equal(b, Seal(text)) {
			t.Fatalf("Open rejects the polynomial from bit %d on", from)
		}
	}
}

// calls are the functions, as answers that can be held against each other.
func calls() map[string]func(b []byte) []byte {
	return map[string]func(b []byte) []byte{
		"Of": func(b []byte) []byte {
			c := Of(b)
			return []byte{byte(c), byte(c >> 8), byte(c >> 16), byte(c >> 24)}
		},
		"Seal":   Seal,
		"Open":   func(b []byte) []byte { got, _ := Open(b); return got },
		"Sector": func(b []byte) []byte { got, _ := Sector(b); return got },
	}
}

// R3: what is passed in stays as it was, with the memory beyond its length, and
// no answer shares memory with it or with another answer.
func TestArgumentsStay(t *testing.T) {
	for name, call := range calls() {
		memory := append(Seal([]byte("12345")), "this memory is beyond the length of the slice"...)
		before := bytes.Clone(memory)
		first := call(memory[:9])
		second := call(memory[:9])
		want := bytes.Clone(second)
		if len(first) == 0 || !bytes.Equal(first, second) {
			t.Errorf("%s: % x, then % x", name, first, second)
		}
		for i := range first {
			first[i] ^= 0xff
		}
		_ = append(first, "????????????????????"...)
		if !bytes.Equal(memory, before) {
			t.Errorf("%s wrote into its argument's memory: %q", name, memory)
		}
		for i := range memory {
			memory[i] = '!'
		}
		if !bytes.Equal(second, want) {
			t.Errorf("%s: an answer shares memory: % x, want % x", name, second, want)
		}
	}
}

// R3: the memory beyond the length of a slice is not read.
func TestNothingBeyondTheLength(t *testing.T) {
	for name, call := range calls() {
		exact := Seal([]byte("12345"))
		want := call(exact[:9:9])
		roomy := append(bytes.Clone(exact), noise(100, 1)...)
		if got := call(roomy[:9]); !bytes.Equal(got, want) {
			t.Errorf("%s: % x, want % x", name, got, want)
		}
	}
	sealed := Seal([]byte("12345"))
	for n := range sealed {
		wantClosed(t, sealed[:n])
	}
}
