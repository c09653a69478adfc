package volume

import (
	"bytes"

	"isobar/api"
	"isobar/pack"
	"isobar/sum"
)

// home is the data of a block, with the number of the record that it is from. A zero home
// is that of a block that was never written.
type home struct {
	seq  int
	data string
}

// encode returns h, which is from a record, as the home sector of a block.
func (h home) encode(block int) []byte {
	b := pack.Number(nil, h.seq)
	b = pack.Number(b, block)
	b = pack.Text(b, h.data)
	// It always fits: a number of nine bytes, one of a single byte, and BlockLen bytes of
	// data behind their length have 27 bytes.
	s, _ := sum.Sector(b)
	return s
}

// decode returns what b contains as the home sector of a block; false if b isn't valid.
func decode(block int, b []byte) (home, bool) {
	if blank(b) {
		return home{}, true
	}
	body, ok := sum.Open(b)
	if !ok {
		return home{}, false
	}
	h := read(body)
	// Encoding again finds what couldn't be decoded, another block's number, and bytes
	// behind the data that aren't zero.
	if h.seq < 1 || !bytes.Equal(h.encode(block), b) {
		return home{}, false
	}
	return h, true
}

// read decodes what encode has sealed. Of other bytes it makes some home.
func read(b []byte) (h home) {
	in := pack.Read(b)
	h.seq = in.Number()
	in.Number() // the block, which decode knows already
	h.data = in.Text(api.BlockLen)
	return h
}

// blank reports whether b is what a fresh sector has.
func blank(b []byte) bool {
	return bytes.Equal(b, make([]byte, api.SectorLen))
}
