package image

import (
	"bytes"

	"isobar/api"
	"isobar/pack"
	"isobar/sum"
)

// block is the data of a block in an area, with the turn of the update that wrote it: an
// area may have blocks of an update that a crash has cut off.
type block struct {
	turn int
	data string
}

// place returns the volume whose block is the one with the number n in an area, and which of
// its blocks it is.
func place(n int) (volume, block int) {
	return n / api.Blocks, n % api.Blocks
}

// sector returns the number of the sector of the block with the number n, in the area of a
// turn.
func sector(turn, n int) int {
	return heads + turn%areas*areaLen + n
}

// encode returns x as a sector.
func (x block) encode() []byte {
	b := pack.Number(nil, x.turn)
	b = pack.Text(b, x.data)
	// It always fits: a number of at most nine bytes, and BlockLen bytes of data behind
	// their length have 26 bytes.
	s, _ := sum.Sector(b)
	return s
}

// decodeBlock returns the block of a turn that a sector's bytes are; false if they aren't.
func decodeBlock(turn int, b []byte) (block, bool) {
	body, ok := sum.Open(b)
	if !ok {
		return block{}, false
	}
	in := pack.Read(body)
	in.Number() // the turn, of which only one is accepted
	x := block{turn, in.Text(api.BlockLen)}
	// Encoding again finds what couldn't be decoded, another turn, and bytes behind the
	// data that aren't zero.
	if !bytes.Equal(x.encode(), b) {
		return block{}, false
	}
	return x, true
}
