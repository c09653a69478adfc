// Package pack is layer 1: see shared/doc/01-pack.md.
package pack

import "isobar/api"

const (
	maxNumber = 1<<60 - 1
	maxBytes  = 9 // how many groups of seven bits maxNumber takes
	groupBits = 7
	groupMask = 1<<groupBits - 1
	more      = 1 << groupBits // set in each byte of a number but its last one
)

// Number returns b followed by the encoding of n, clamped to what a number may be.
func Number(b []byte, n int) []byte {
	return putNumber(grown(b, maxBytes), n)
}

// Text returns b followed by the encoding of s.
func Text(b []byte, s string) []byte {
	out := putNumber(grown(b, maxBytes+len(s)), len(s))
	return append(out, s...)
}

// grown copies b into memory of its own, because appending to b itself could
// write into the caller's memory beyond its length.
func grown(b []byte, room int) []byte {
	out := make([]byte, len(b), len(b)+room)
	copy(out, b)
	return out
}

func putNumber(out []byte, n int) []byte {
	n = min(max(n, 0), maxNumber)
	for n > groupMask {
		out = append(out, byte(n&groupMask|more))
		n >>= groupBits
	}
	return append(out, byte(n))
}

// Reader decodes bytes from the left, up to the first error.
// The zero value reads an empty byte sequence.
type Reader struct {
	rest []byte
	err  api.Errno
}

// Read returns a reader at the beginning of b. It reads b itself, not a copy.
func Read(b []byte) *Reader { return &Reader{rest: b} }

// Number decodes a number; it returns 0 after an error.
func (r *Reader) Number() int {
	if r.Err() != api.OK {
		return 0
	}
	n, size, e := number(r.rest)
	if e != api.OK {
		r.fail(e)
		return 0
	}
	r.rest = r.rest[size:]
	return n
}

// Text decodes a string of at most so many bytes; it returns "" after an error.
func (r *Reader) Text(most int) string {
	n := r.Number()
	if r.Err() != api.OK {
		return ""
	}
	// The limit is asked ahead of the bytes that are there: a string that is
	// too long is wrong even if more bytes were to follow.
	if n > most {
		r.fail(api.ErrArg)
		return ""
	}
	if n > len(r.rest) {
		r.fail(api.ErrShort)
		return ""
	}
	s := string(r.rest[:n])
	r.rest = r.rest[n:]
	return s
}

// Left returns the number of bytes that are left; 0 after an error.
func (r *Reader) Left() int {
	if r == nil {
		return 0
	}
	return len(r.rest)
}

// Err returns the first error, or OK.
func (r *Reader) Err() api.Errno {
	if r == nil {
		return api.ErrShort
	}
	return r.err
}

// End returns the first error; if there is none, ErrTail if bytes are left.
func (r *Reader) End() api.Errno {
	if e := r.Err(); e != api.OK {
		return e
	}
	if r.Left() > 0 {
		return api.ErrTail
	}
	return api.OK
}

// fail drops what is left, so that nothing more is decoded or counted.
func (r *Reader) fail(e api.Errno) {
	r.rest, r.err = nil, e
}

// number decodes the number that b begins with, and tells how many bytes it takes.
func number(b []byte) (n, size int, e api.Errno) {
	for i, c := range b {
		n |= int(c&groupMask) << (groupBits * i)
		last := c&more == 0
		switch {
		case n > maxNumber, !last && i == maxBytes-1:
			return 0, 0, api.ErrArg
		case last && c == 0 && i > 0:
			// A highest group of 0 would have been left out.
			return 0, 0, api.ErrArg
		case last:
			return n, i + 1, api.OK
		}
	}
	return 0, 0, api.ErrShort
}
