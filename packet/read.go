package packet

import (
	"portage/api"
	"portage/num"
	"portage/pnum"
)

// A reader goes through bytes. The first thing that is wrong stays as its reason; behind that it reads noughts alone, and nothing that is found wrong counts.
type reader struct {
	b       []byte
	at      int
	largest [api.Spaces]int64
	why     api.Errno
}

func (r *reader) must(holds bool, why api.Errno) {
	if !holds && r.why == api.OK {
		r.why = why
	}
}

func (r *reader) packet(idlen int) api.Packet {
	first := byte(r.plain(firstSize))
	if first&longBit != 0 {
		return r.long(first)
	}
	return r.short(first, idlen)
}

func (r *reader) long(first byte) api.Packet {
	r.must(first&(fixedBit|longZeros) == fixedBit, api.ErrPacketBit)
	r.must(r.plain(versionSize) == version, api.ErrPacketVersion)
	space, taken := spaceOf(first)
	r.must(taken, api.ErrPacketKind)
	p := api.Packet{Space: space, Width: widthOf(first)}
	p.Dst = r.id()
	p.Src = r.id()
	if space == api.Initial {
		r.pass(r.sized())
	}
	n := r.sized()
	r.must(n >= uint64(p.Width), api.ErrPacketField)
	p.Number = r.number(space, p.Width)
	p.Payload = r.bytes(n - uint64(p.Width))
	return p
}

func (r *reader) short(first byte, idlen int) api.Packet {
	r.must(first&(fixedBit|shortZeros) == fixedBit, api.ErrPacketBit)
	p := api.Packet{Space: api.App, Width: widthOf(first)}
	p.Dst = r.bytes(uint64(idlen))
	p.Number = r.number(p.Space, p.Width)
	p.Payload = r.bytes(r.left())
	return p
}

func spaceOf(first byte) (int, bool) {
	switch first & kindBits {
	case kindInitial:
		return api.Initial, true
	case kindHandshake:
		return api.Handshake, true
	}
	return 0, false
}

func widthOf(first byte) int {
	return int(first&widthBits) + 1
}

// left is how many bytes there are still.
func (r *reader) left() uint64 {
	return uint64(len(r.b) - r.at)
}

func (r *reader) id() []byte {
	n := r.plain(idSize)
	r.must(n <= mostID, api.ErrPacketField)
	return r.bytes(n)
}

func (r *reader) number(space, width int) int64 {
	low := r.plain(width)
	// No error can come: largest was looked at, and low has no more than width bytes.
	n, _ := pnum.Whole(r.largest[space], uint32(low), width)
	return n
}

func (r *reader) plain(n int) uint64 {
	v, end, err := num.ReadBig(r.b, r.at, n)
	return r.read(v, end, err)
}

func (r *reader) sized() uint64 {
	v, end, err := num.Get(r.b, r.at)
	return r.read(v, end, err)
}

// read takes what num read: its one error, at a place that may be, is that the bytes end.
func (r *reader) read(v uint64, end int, err api.Errno) uint64 {
	r.must(err == api.OK, api.ErrPacketShort)
	if r.why != api.OK {
		return 0
	}
	r.at = end
	return v
}

// pass goes behind n bytes.
func (r *reader) pass(n uint64) {
	r.must(n <= r.left(), api.ErrPacketShort)
	if r.why == api.OK {
		r.at += int(n)
	}
}

func (r *reader) bytes(n uint64) []byte {
	from := r.at
	r.pass(n)
	return append([]byte(nil), r.b[from:r.at]...)
}
