package member

import "isobar/api"

// set is a set of volumes: the sum of 2^v over each volume v in it, as it is encoded.
type set int

// allVolumes is the set of all volumes; greater numbers aren't sets.
const allVolumes set = 1<<api.Volumes - 1

// isVolume reports whether there is such a volume.
func isVolume(v int) bool {
	return 0 <= v && v < api.Volumes
}

// has reports whether a volume is in s.
func (s set) has(v int) bool {
	return s&(1<<v) != 0
}

// with returns s with a volume in it.
func (s set) with(v int) set {
	return s | 1<<v
}

// without returns s with a volume no longer in it.
func (s set) without(v int) set {
	return s &^ (1 << v)
}

// list returns the volumes in s, in ascending order.
func (s set) list() []int {
	var volumes []int
	for v := range api.Volumes {
		if s.has(v) {
			volumes = append(volumes, v)
		}
	}
	return volumes
}
