package journal

import (
	"bytes"
	"cmp"
	"slices"

	"isobar/api"
	"isobar/disk"
	"isobar/pack"
	"isobar/sum"
)

// heads is the number of sectors that heads are saved in, in turn: while one of them
// is written, the other one still has the head before.
const heads = 2

// head is what a journal knows of its records ahead of reading them.
type head struct {
	turn  int // its sector is the turn modulo heads
	first int // the number of the first record that is held
	gen   int // the generation that records are appended in
	low   int // the generation of the last record that was dropped, or 0
}

// current returns the current head of a disk, or that of an empty journal if there is
// none and the sectors of the heads are fresh; false if they aren't.
func current(d *disk.Disk) (head, bool) {
	var found []head
	fresh := true
	for i := range heads {
		// Open has asked for more sectors than these.
		b, _ := d.Read(i)
		if h, ok := decode(i, b); ok {
			found = append(found, h)
		}
		fresh = fresh && blank(b)
	}
	if len(found) == 0 {
		return head{first: 1}, fresh
	}
	return slices.MaxFunc(found, byTurn), true
}

// byTurn compares heads by their turns, which differ as their sectors do.
func byTurn(a, b head) int { return cmp.Compare(a.turn, b.turn) }

// encode returns h as a sector.
func (h head) encode() []byte {
	b := pack.Number(nil, h.turn)
	b = pack.Number(b, h.first)
	b = pack.Number(b, h.gen)
	b = pack.Number(b, h.low)
	// It always fits: four numbers have at most 36 bytes.
	s, _ := sum.Sector(b)
	return s
}

// decode returns the head that sector i contains, whose bytes are b; false if it
// contains none.
func decode(i int, b []byte) (head, bool) {
	body, ok := sum.Open(b)
	if !ok {
		return head{}, false
	}
	h := read(body)
	if h.first < 1 || h.low > h.gen || h.turn%heads != i {
		return head{}, false
	}
	// Encoding again finds what couldn't be decoded, and bytes behind the numbers that
	// aren't zero.
	if !bytes.Equal(h.encode(), b) {
		return head{}, false
	}
	return h, true
}

// read decodes what encode has sealed. Of other bytes it makes some head.
func read(b []byte) (h head) {
	in := pack.Read(b)
	h.turn = in.Number()
	h.first = in.Number()
	h.gen = in.Number()
	h.low = in.Number()
	return h
}

// blank reports whether b is what a fresh sector has.
func blank(b []byte) bool {
	return bytes.Equal(b, make([]byte, api.SectorLen))
}
