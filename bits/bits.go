// Package bits is layer 1, bitmaps: see shared/doc/01-bits.md.
package bits

import (
	"ashlar/api"
)

// most is the greatest number of bits that a row has.
const most = 4096

// Row is a row of bits. The zero Row has none.
type Row struct {
	n     int
	bytes []byte
}

// New returns a row of n bits, all 0; an n out of range counts as the nearest number in it.
func New(n int) *Row {
	if n < 0 {
		n = 0
	}
	if n > most {
		n = most
	}
	return &Row{n: n, bytes: make([]byte, size(n))}
}

// Of returns the row of n bits whose bytes are b.
func Of(n int, b []byte) (*Row, api.Errno) {
	if n < 0 || n > most {
		return nil, api.ErrArg
	}
	if len(b) != size(n) || unusedSet(n, b) {
		return nil, api.ErrForm
	}
	r := New(n)
	copy(r.bytes, b)
	return r, api.OK
}

// Len returns the number of bits.
func (r *Row) Len() int {
	if r == nil {
		return 0
	}
	return r.n
}

// Bytes returns a copy of the row's bytes, so that the row stays its owner's alone.
func (r *Row) Bytes() []byte {
	if r == nil {
		return nil
	}
	b := make([]byte, len(r.bytes))
	copy(b, r.bytes)
	return b
}

// Get reports whether bit i is there and is 1.
func (r *Row) Get(i int) bool {
	return r.has(i) && r.bytes[i/8]>>shift(i)&1 == 1
}

// Set sets bit i to on.
func (r *Row) Set(i int, on bool) api.Errno {
	if !r.has(i) {
		return api.ErrArg
	}
	// Narrowing loses nothing here: the bit was shifted by less than 8.
	mask := byte(uint(1) << shift(i))
	if on {
		r.bytes[i/8] |= mask
	} else {
		r.bytes[i/8] &^= mask
	}
	return api.OK
}

// Count returns the number of bits that are 1.
func (r *Row) Count() int {
	count := 0
	for i := range r.Len() {
		if r.Get(i) {
			count++
		}
	}
	return count
}

// First returns the first bit from goal on that is 0, or else the first one of all, or else -1.
func (r *Row) First(goal int) int {
	if r == nil {
		return 0
	}
	if r.has(goal) {
		if i := r.zeroFrom(goal); i >= 0 {
			return i
		}
	}
	return r.zeroFrom(0)
}

// Run returns the least i from which on n bits are 0, or -1.
func (r *Row) Run(n int) int {
	if r == nil {
		return 0
	}
	if n < 1 {
		return -1
	}
	// The zeros are counted up to n: i + n would wrap round for a great n.
	zeros := 0
	for i := range r.n {
		if r.Get(i) {
			zeros = 0
			continue
		}
		zeros++
		if zeros == n {
			return i - n + 1
		}
	}
	return -1
}

// has reports whether there is a bit i.
func (r *Row) has(i int) bool {
	return r != nil && i >= 0 && i < r.n
}

// zeroFrom returns the first bit from i on that is 0, or -1.
func (r *Row) zeroFrom(i int) int {
	for ; i < r.n; i++ {
		if !r.Get(i) {
			return i
		}
	}
	return -1
}

// size returns the number of bytes that hold n bits.
func size(n int) int {
	return (n + 7) / 8
}

// shift returns the place of bit i in its byte.
func shift(i int) uint {
	return uint(i % 8)
}

// unusedSet reports whether a bit after the last one of n is 1 in their bytes b.
func unusedSet(n int, b []byte) bool {
	used := shift(n)
	return used != 0 && b[len(b)-1]>>used != 0
}
