// Package varint is layer 1, variable-length integers: see shared/doc/01-varint.md.
package varint

import "alibi/api"

const (
	most    = 5   // bytes of a number
	lastTop = 15  // what 32 bits leave for the fifth byte
	goesOn  = 128 // added to a byte behind which others come
	width   = 7   // bits in a byte
)

// Put answers a number's bytes.
func Put(n uint32) []byte { return Row(n) }

// Size answers how many bytes a number has.
func Size(n uint32) int {
	for i := range most {
		n >>= width
		if n == 0 {
			return i + 1
		}
	}
	return most
}

// Get answers the number that bytes begin with, and how many bytes it has.
func Get(b []byte) (uint32, int, api.Errno) {
	n := uint32(0)
	for i, x := range b {
		if i == most-1 && x > lastTop {
			return 0, 0, api.ErrLong
		}
		if i > 0 && x == 0 {
			return 0, 0, api.ErrForm
		}
		n |= uint32(x%goesOn) << (width * i)
		if x < goesOn {
			return n, i + 1, api.OK
		}
	}
	return 0, 0, api.ErrShort
}

// Row answers the bytes of numbers, one behind the other.
func Row(l ...uint32) []byte {
	size := 0
	for _, n := range l {
		size += Size(n)
	}
	b := make([]byte, 0, size)
	for _, n := range l {
		b = add(b, n)
	}
	return b
}

// add answers b, and behind it a number's bytes.
func add(b []byte, n uint32) []byte {
	for range Size(n) - 1 {
		b = append(b, goesOn+byte(n%goesOn))
		n >>= width
	}
	return append(b, byte(n))
}
