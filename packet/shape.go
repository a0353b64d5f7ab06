package packet

import (
	"portage/api"
	"portage/num"
	"portage/pnum"
)

// The bits of a packet's first byte.
const (
	longBit    = 0x80
	fixedBit   = 0x40
	kindBits   = 0x30 // of a long packet
	longZeros  = 0x0c
	shortZeros = 0x18
	widthBits  = 0x03
)

// The kinds of long packets that are taken.
const (
	kindInitial   = 0x00
	kindHandshake = 0x20
)

// How many bytes the parts have as they are written: idSize is of the byte that tells how many bytes an id has.
const (
	firstSize   = 1
	versionSize = 4
	idSize      = 1
	noTokenSize = 1
	lengthSize  = 2
)

const (
	version    = 1
	mostID     = 20
	mostWidth  = 4
	mostLength = 1<<14 - 1 // what stands in two bytes
)

func isLong(space int) bool {
	return space == api.Initial || space == api.Handshake
}

// length is what a long packet tells as its length.
func length(p api.Packet) int {
	return p.Width + len(p.Payload)
}

// parts are the bytes of a packet that may be, part by part. None of the calls below can answer an error of such a one.
func parts(p api.Packet) [][]byte {
	low, _ := pnum.Cut(p.Number, p.Width)
	number, _ := num.Big(uint64(low), p.Width)
	if p.Space == api.App {
		return [][]byte{{fixedBit | byte(p.Width-1)}, p.Dst, number, p.Payload}
	}
	kind := byte(kindHandshake)
	var token []byte
	if p.Space == api.Initial {
		kind = kindInitial
		token = make([]byte, noTokenSize)
	}
	first := longBit | fixedBit | kind | byte(p.Width-1)
	ver, _ := num.Big(version, versionSize)
	size, _ := num.PutAs(uint64(length(p)), lengthSize)
	return [][]byte{{first}, ver, {byte(len(p.Dst))}, p.Dst, {byte(len(p.Src))}, p.Src, token, size, number, p.Payload}
}
