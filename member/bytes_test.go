package member

import (
	"bytes"
	"encoding/binary"
	"math"
	"slices"
	"testing"
)

// numbers returns the encoding of some numbers, by Go's own varints.
func numbers(l ...uint64) []byte {
	var b []byte
	for _, n := range l {
		b = binary.AppendUvarint(b, n)
	}
	return b
}

// samples are groups of all kinds.
func samples(t *testing.T) []*Group {
	t.Helper()
	late := made(t, 1)
	remove(t, late, 1, 127)
	add(t, late, 1, 128)
	add(t, late, 3, 1<<14-1)
	add(t, late, 2, 1<<14)
	remove(t, late, 1, 1<<32+1)
	remove(t, late, 3, greatest-1)
	add(t, late, 0, greatest)
	l := []*Group{late}
	for n := range 1 << 4 {
		l = append(l, made(t, subset(n)...))
	}
	for _, changes := range []int{1, 2, 3, 4, 5, 10, 50, 99, 100} {
		l = append(l, filled(t, changes))
	}
	return l
}

// P15.3: the numbers of a group, in order.
func TestBytes(t *testing.T) {
	all := made(t, 3, 2, 1, 0)
	both := made(t)
	for v := range 4 {
		add(t, both, v, 10+v)
	}
	for v := range 4 {
		remove(t, both, v, 20+v)
	}
	late := samples(t)[0]
	one := made(t, 2)
	add(t, one, 0, 300)
	for _, c := range []struct {
		g    *Group
		want []byte
	}{
		{&Group{}, []byte{0, 0}},
		{made(t), []byte{0, 0}},
		{made(t, 0), []byte{1, 0}},
		{made(t, 1), []byte{2, 0}},
		{made(t, 2), []byte{4, 0}},
		{made(t, 3), []byte{8, 0}},
		{made(t, 2, 0), []byte{5, 0}},
		{all, []byte{15, 0}},
		{one, []byte{4, 1, 0xac, 2, 0}},
		{both, []byte{0, 8, 10, 0, 11, 2, 12, 4, 13, 6, 20, 1, 21, 3, 22, 5, 23, 7}},
		{late, numbers(2, 7, 127, 3, 128, 2, 1<<14-1, 6, 1<<14, 4, 1<<32+1, 3, greatest-1, 7, greatest, 0)},
	} {
		if got := c.g.Bytes(); !bytes.Equal(got, c.want) {
			t.Errorf("Bytes = % x, want % x", got, c.want)
		}
	}
}

// P15.3: 100 changes.
func TestBytesFull(t *testing.T) {
	g := made(t, 0, 1)
	l := []uint64{3, 100}
	for i := range uint64(100) {
		v := volumeOf(int(i))
		code := uint64(2 * v)
		if slices.Contains(g.Now(), v) {
			code++
		}
		mark := i*i*i + i*1000 + 1
		swap(t, g, v, int(mark))
		l = append(l, mark, code)
	}
	if got := g.Bytes(); !bytes.Equal(got, numbers(l...)) {
		t.Fatalf("Bytes = % x, want % x", got, numbers(l...))
	}
	wantTold(t, decoded(t, g.Bytes()), told(g))
}

// P15.3: FromBytes of what Bytes returned is the same group, and changes as it does.
func TestFromBytes(t *testing.T) {
	for _, g := range samples(t) {
		h := decoded(t, g.Bytes())
		wantTold(t, h, told(g))
		for v := range 4 {
			a, b := g.Add(v, g.Last()+1), h.Add(v, h.Last()+1)
			if (a == nil) != (b == nil) || a != nil && a.Error() != b.Error() {
				t.Fatalf("Add(%d, ..) = %v and %v", v, a, b)
			}
			a, b = g.Remove(v, g.Last()+2), h.Remove(v, h.Last()+2)
			if (a == nil) != (b == nil) || a != nil && a.Error() != b.Error() {
				t.Fatalf("Remove(%d, ..) = %v and %v", v, a, b)
			}
			wantTold(t, h, told(g))
		}
	}
}

// P15.3: no bytes, bytes that are cut off, and bytes that are followed by others.
func TestFromBytesLength(t *testing.T) {
	noGroup(t, nil)
	noGroup(t, []byte{})
	var down *Group
	noGroup(t, down.Bytes())
	for _, g := range samples(t) {
		b := g.Bytes()
		for n := range b {
			noGroup(t, b[:n])
			noGroup(t, slices.Clone(b[:n]))
			noGroup(t, b[n+1:n+1])
		}
		for _, more := range [][]byte{{0}, {1}, {0x80}, {0xff}, {0, 0}, {1, 0}, {9, 1}, b, numbers(greatest, 0)} {
			noGroup(t, slices.Concat(b, more))
		}
	}
}

// longer returns the encoding of a number with so many groups more than it needs.
func longer(n uint64, more int) []byte {
	b := binary.AppendUvarint(nil, n)
	b[len(b)-1] |= 0x80
	for range more - 1 {
		b = append(b, 0x80)
	}
	return append(b, 0)
}

// P15.3: each number with more bytes than it needs.
func TestFromBytesLonger(t *testing.T) {
	for _, l := range [][]uint64{{0, 0}, {15, 0}, {2, 1, 300, 3}, {3, 2, 5, 4, 7, 1}, {0, 3, 1, 0, 1 << 20, 1, 1 << 40, 0}} {
		decoded(t, numbers(l...))
		for i := range l {
			for more := 1; more < 9; more++ {
				noGroup(t, slices.Concat(numbers(l[:i]...), longer(l[i], more), numbers(l[i+1:]...)))
			}
		}
	}
}

// P15.3: a first number that tells of a volume that there isn't.
func TestFromBytesInitial(t *testing.T) {
	for n := range uint64(1 << 12) {
		if n < 16 {
			decoded(t, numbers(n, 0))
			continue
		}
		noGroup(t, numbers(n, 0))
	}
	for shift := 4; shift < 64; shift++ {
		noGroup(t, numbers(1<<shift, 0))
		noGroup(t, numbers(1<<shift|5, 0))
		noGroup(t, numbers(1<<shift|1, 1, 5, 2))
	}
	noGroup(t, numbers(greatest, 0))
	noGroup(t, numbers(math.MaxUint64, 0))
}

// P15.3: a number of changes that is above 100, or isn't that of the changes that follow.
func TestFromBytesCount(t *testing.T) {
	var body []byte
	for i := range uint64(150) {
		body = append(body, numbers(i+1, i%2)...)
	}
	counts := []uint64{127, 128, 150, 255, 256, 1 << 16, 1 << 32, 1<<32 + 1, greatest, 1 << 60, 1 << 63, math.MaxUint64}
	for n := range uint64(110) {
		counts = append(counts, n)
	}
	for _, n := range counts {
		for there := range uint64(111) {
			// Each change has two bytes, as the markers up to 127 have one each.
			b := slices.Concat(numbers(0, n), body[:2*there])
			if n == there && n <= 100 {
				if g := decoded(t, b); g.Last() != int(n) {
					t.Fatalf("Last = %d, want %d", g.Last(), n)
				}
				continue
			}
			noGroup(t, b)
		}
		noGroup(t, slices.Concat(numbers(0, n), body))
	}
}

// P15.3: markers that are 0, that don't rise, or that are above 2^60 - 1.
func TestFromBytesMarks(t *testing.T) {
	marks := []uint64{0, 1, 2, 3, 127, 128, 300, 1 << 32, greatest - 1, greatest, 1 << 60, 1<<60 + 1, 1 << 61, 1 << 63, math.MaxUint64}
	for _, a := range marks {
		for _, b := range marks {
			for _, c := range marks {
				x := numbers(1, 3, a, 1, b, 0, c, 6)
				if 0 < a && a < b && b < c && c <= greatest {
					g := decoded(t, x)
					wantAt(t, g, int(a)-1, 0)
					wantAt(t, g, int(a))
					wantAt(t, g, int(b), 0)
					wantNow(t, g, int(c), 0, 3)
					continue
				}
				noGroup(t, x)
			}
		}
	}
	noGroup(t, numbers(1, 1, 0, 1))
	noGroup(t, numbers(1, 1, 1<<60, 1))
	noGroup(t, numbers(1, 1, math.MaxUint64, 1))
}

// P15.3: changes that add a volume that is in, remove one that isn't, or tell of one that
// there isn't.
func TestFromBytesVolumes(t *testing.T) {
	codes := []uint64{0, 1, 2, 3, 4, 5, 6, 7, 8, 9, 15, 16, 17, 127, 128, 129, 1 << 32, 1<<32 + 1, greatest - 1, greatest, 1 << 60, 1 << 63, math.MaxUint64}
	fits := func(initial, code uint64) bool {
		return code < 8 && initial>>(code/2)&1 == code%2
	}
	for initial := range uint64(16) {
		for _, a := range codes {
			b := numbers(initial, 1, 9, a)
			if !fits(initial, a) {
				noGroup(t, b)
				continue
			}
			after := initial ^ 1<<(a/2)
			wantNow(t, decoded(t, b), 9, subset(int(after))...)
			for _, c := range codes {
				b := numbers(initial, 2, 9, a, 10, c)
				if !fits(after, c) {
					noGroup(t, b)
					continue
				}
				g := decoded(t, b)
				wantAt(t, g, 8, subset(int(initial))...)
				wantAt(t, g, 9, subset(int(after))...)
				wantNow(t, g, 10, subset(int(after^1<<(c/2)))...)
			}
		}
	}
}

// R3: what Bytes returned can be changed and appended to, and stays as it is when the group
// changes.
func TestBytesAreNew(t *testing.T) {
	for _, changes := range []int{0, 1, 5, 99} {
		g := filled(t, changes)
		before := told(g)
		kept, b := g.Bytes(), g.Bytes()
		for i := range b {
			b[i] = 0xee
		}
		_ = append(b[:1], 1, 2, 3)
		if !bytes.Equal(kept, before.bytes) {
			t.Fatalf("two results share their memory: % x became % x", before.bytes, kept)
		}
		wantTold(t, g, before)
		swap(t, g, 1, changes+1)
		if !bytes.Equal(kept, before.bytes) {
			t.Fatalf("what Bytes returned is % x now, and was % x", kept, before.bytes)
		}
	}
}

// R3: the bytes that are passed to FromBytes stay as they are and aren't kept, and what is
// beyond them isn't used.
func TestFromBytesKeepsNothing(t *testing.T) {
	for _, g := range samples(t) {
		b := g.Bytes()
		memory := slices.Concat(b, b)
		want := slices.Clone(memory)
		for n := range len(b) + 1 {
			_, _ = FromBytes(memory[:n])
			if !bytes.Equal(memory, want) {
				t.Fatalf("the argument % x became % x", want, memory)
			}
		}
		h := decoded(t, memory[:len(b)])
		before := told(g)
		_ = h.Add(0, h.Last()+1)
		_ = h.Remove(1, h.Last()+1)
		if !bytes.Equal(memory, want) {
			t.Fatalf("the argument % x became % x", want, memory)
		}
		h = decoded(t, memory[:len(b)])
		for i := range memory {
			memory[i] = 0xee
		}
		wantTold(t, h, before)
	}
}

// R6: the bytes of a group don't depend on how it was made.
func TestSameBytes(t *testing.T) {
	orders([]int{3, 0, 2}, func(l []int) {
		g := made(t, l...)
		remove(t, g, 2, 4)
		if b := g.Bytes(); !bytes.Equal(b, []byte{13, 1, 4, 5}) {
			t.Fatalf("Bytes = % x", b)
		}
	})
	for _, g := range samples(t) {
		if a, b := g.Bytes(), g.Bytes(); !bytes.Equal(a, b) {
			t.Fatalf("Bytes = % x, and then % x", a, b)
		}
	}
}
