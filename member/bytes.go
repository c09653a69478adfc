package member

import (
	"isobar/api"
	"isobar/pack"
)

// Bytes returns the encoding of the group.
func (g *Group) Bytes() []byte {
	if g == nil {
		return nil
	}
	b := pack.Number(nil, int(g.initial))
	b = pack.Number(b, len(g.changes))
	for _, c := range g.changes {
		b = pack.Number(b, c.mark)
		b = pack.Number(b, c.code())
	}
	return b
}

// FromBytes returns the group that b is the encoding of.
func FromBytes(b []byte) (*Group, error) {
	g := &Group{}
	if !g.decode(pack.Read(b)) {
		return nil, failed(0, api.ErrArg)
	}
	return g, nil
}

// decode fills a zero Group with what in has; false if that isn't a group. What it has filled
// in by then is of no use.
func (g *Group) decode(in *pack.Reader) bool {
	g.initial = set(in.Number())
	n := in.Number()
	// A number that is too great doesn't keep the loop going: a change is refused if there are
	// too many already, or if in has ended, because its marker is 0 then.
	for range n {
		mark := in.Number()
		if g.take(decodeChange(mark, in.Number())) != nil {
			return false
		}
	}
	return g.initial <= allVolumes && in.End() == api.OK
}

// code returns the volume of a change and whether it is removed, as one number.
func (c change) code() int {
	if c.removed {
		return 2*c.volume + 1
	}
	return 2 * c.volume
}

// decodeChange returns the change with that marker and that code.
func decodeChange(mark, code int) change {
	return change{mark: mark, volume: code / 2, removed: code%2 == 1}
}
