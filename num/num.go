// Package num is layer 1: whole numbers as bytes. See shared/doc/01-num.md.
package num

import (
	"iter"

	"portage/api"
)

// The least numbers that a sized number of one, two or four bytes can't hold: two bits of its first byte tell the size.
const (
	beyondOne  = 1 << 6
	beyondTwo  = 1 << 14
	beyondFour = 1 << 30
)

// widest is how many bytes a plain number has at most.
const widest = 8

// Size tells how many bytes a number needs (P1.1).
func Size(v uint64) int {
	switch {
	case v < beyondOne:
		return 1
	case v < beyondTwo:
		return 2
	case v < beyondFour:
		return 4
	case v <= api.MaxNumber:
		return 8
	}
	return 0
}

// Put writes a sized number (P1.2).
func Put(v uint64) ([]byte, api.Errno) {
	size := Size(v)
	if size == 0 {
		return nil, api.ErrNumRange
	}
	return lay(v, size), api.OK
}

// PutAs writes it in so many bytes (P1.3).
func PutAs(v uint64, size int) ([]byte, api.Errno) {
	switch size {
	case 1, 2, 4, 8:
	default:
		return nil, api.ErrArg
	}
	need := Size(v)
	if need == 0 || need > size {
		return nil, api.ErrNumRange
	}
	return lay(v, size), api.OK
}

// lay lays the bytes of a number that fits, the last one first: each size's upper half is the next lesser size's whole.
func lay(v uint64, size int) []byte {
	b := make([]byte, size)
	mark := byte(0x00)
	switch size {
	case 8:
		b[7], b[6], b[5], b[4] = byte(v), byte(v>>8), byte(v>>16), byte(v>>24)
		v >>= 32
		mark += 0x40
		fallthrough
	case 4:
		b[3], b[2] = byte(v), byte(v>>8)
		v >>= 16
		mark += 0x40
		fallthrough
	case 2:
		b[1] = byte(v)
		v >>= 8
		mark += 0x40
		fallthrough
	case 1:
		b[0] = mark | byte(v)
	}
	return b
}

// Get reads one (P1.4).
func Get(b []byte, at int) (uint64, int, api.Errno) {
	if at < 0 || at > len(b) {
		return 0, 0, api.ErrArg
	}
	if at == len(b) {
		return 0, 0, api.ErrNumShort
	}
	size := 1 << (b[at] >> 6)
	if size > len(b)-at {
		return 0, 0, api.ErrNumShort
	}
	end := at + size
	return join(uint64(b[at]&0x3f), b[at+1:end]), end, api.OK
}

// All goes through them, one behind the other (P1.5).
func All(b []byte, at int) iter.Seq2[int, uint64] {
	return func(yield func(int, uint64) bool) {
		// The place is this range's own: ranges of one iterator may stand within each other.
		from := at
		for {
			v, end, err := Get(b, from)
			if err != api.OK || !yield(from, v) {
				return
			}
			from = end
		}
	}
}

// Big writes a plain number of n bytes (P1.6).
func Big(v uint64, n int) ([]byte, api.Errno) {
	if n < 0 || n > widest {
		return nil, api.ErrArg
	}
	b := make([]byte, n)
	for i := n - 1; i >= 0; i-- {
		b[i] = byte(v)
		v >>= 8
	}
	if v != 0 {
		return nil, api.ErrNumRange
	}
	return b, api.OK
}

// ReadBig reads one (P1.7).
func ReadBig(b []byte, at, n int) (uint64, int, api.Errno) {
	if n < 0 || n > widest || at < 0 || at > len(b) {
		return 0, 0, api.ErrArg
	}
	if n > len(b)-at {
		return 0, 0, api.ErrNumShort
	}
	end := at + n
	return join(0, b[at:end]), end, api.OK
}

// join sets bytes behind a number, as its lowest ones.
func join(v uint64, b []byte) uint64 {
	for _, x := range b {
		v = v<<8 | uint64(x)
	}
	return v
}
