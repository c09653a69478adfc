package image

import (
	"bytes"

	"isobar/api"
	"isobar/disk"
	"isobar/pack"
	"isobar/sum"
)

// heads is the number of sectors that heads are written to, in turn: while one of them is
// written, the other one still has the head before.
const heads = 2

// head tells which area has the blocks, and which marker they are of. A zero head stands
// for none.
type head struct {
	turn int
	mark int
}

// current returns the current head of a disk, or a zero head if there is none and the
// sectors of the heads are fresh; false if they aren't.
func current(d *disk.Disk) (head, bool) {
	var now head
	fresh := true
	for i := range heads {
		// Open has asked for more sectors than these.
		b, _ := d.Read(i)
		if h, ok := decodeHead(i, b); ok && h.turn > now.turn {
			now = h
		}
		fresh = fresh && blank(b)
	}
	return now, now.turn > 0 || fresh
}

// sector returns the number of the sector that h is stored in.
func (h head) sector() int { return h.turn % heads }

// encode returns h as a sector.
func (h head) encode() []byte {
	b := pack.Number(nil, h.turn)
	b = pack.Number(b, h.mark)
	// It always fits: two numbers have at most 18 bytes.
	s, _ := sum.Sector(b)
	return s
}

// decodeHead returns the head that sector i contains, whose bytes are b; false if it
// contains none.
func decodeHead(i int, b []byte) (head, bool) {
	body, ok := sum.Open(b)
	if !ok {
		return head{}, false
	}
	in := pack.Read(body)
	h := head{turn: in.Number()}
	h.mark = in.Number()
	if h.turn < 1 || h.mark < 1 || h.sector() != i {
		return head{}, false
	}
	// Encoding again finds what couldn't be decoded, and bytes behind the numbers that
	// aren't zero.
	if !bytes.Equal(h.encode(), b) {
		return head{}, false
	}
	return h, true
}

// blank reports whether b is what a fresh sector has.
func blank(b []byte) bool {
	return bytes.Equal(b, make([]byte, api.SectorLen))
}
