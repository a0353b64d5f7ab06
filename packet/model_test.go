package packet

import (
	"bytes"
	"math/big"
	"math/rand/v2"
	"testing"

	"portage/api"
)

// A source makes packets and datagrams, the same at every run.
type source struct {
	*rand.Rand
}

func newSource(seed uint64) source {
	return source{rand.New(rand.NewPCG(seed, 5))}
}

func (s source) below(n int) int { return s.IntN(n) }

func (s source) bytes(n int) []byte {
	b := make([]byte, n)
	for i := range b {
		b[i] = byte(s.Uint32())
	}
	return b
}

func (s source) one(l ...int) int { return l[s.below(len(l))] }

// arguments are an idlen and a largest that may be.
func (s source) arguments() (int, [api.Spaces]int64) {
	var largest [api.Spaces]int64
	for i := range largest {
		switch s.below(4) {
		case 0:
			largest[i] = -1
		case 1:
			largest[i] = last - int64(s.below(300))
		case 2:
			largest[i] = s.Int64N(last)
		default:
			largest[i] = int64(s.below(1000))
		}
	}
	return s.one(0, 1, 2, 8, 20), largest
}

// packet makes one that may be, with a number that is found again from largest.
func (s source) packet(space, idlen int, largest [api.Spaces]int64) api.Packet {
	p := api.Packet{Space: space, Dst: s.bytes(s.one(0, 1, 8, 19, 20)), Width: 1 + s.below(4), Payload: s.bytes(s.one(0, 1, 2, 60, 63, 64, 300))}
	if space == api.App {
		p.Dst = s.bytes(idlen)
	} else {
		p.Src = s.bytes(s.one(0, 1, 8, 19, 20))
	}
	half := int64(1) << (8*p.Width - 1)
	p.Number = min(last, max(0, largest[space]+1-half+1+s.Int64N(2*half)))
	return p
}

// datagram makes bytes that are nearly packets: parts of right and of wrong kinds one behind the other, some of them spoilt or cut off.
func (s source) datagram() []byte {
	var b []byte
	for range s.below(4) {
		b = append(b, s.nearly()...)
	}
	for range s.one(0, 0, 0, 1, 2) {
		if len(b) > 0 {
			b[s.below(len(b))] = byte(s.Uint32())
		}
	}
	if s.below(4) == 0 && len(b) > 0 {
		b = b[:s.below(len(b))]
	}
	return b
}

func (s source) nearly() []byte {
	first := byte(s.one(0xc0, 0xc0, 0xe0, 0xe0, 0xc0, 0xe0, 0x40, 0x64, 0xd0, 0xf0)) | byte(s.below(4))
	if s.below(20) == 0 {
		first ^= 1 << s.below(8)
	}
	if first&0x80 == 0 {
		return append([]byte{first}, s.bytes(s.below(40))...)
	}
	b := []byte{first, 0, 0, 0, byte(s.one(1, 1, 1, 1, 1, 1, 1, 1, 1, 2))}
	for range 2 {
		n := s.one(0, 0, 1, 2, 8, 20, 20, 0, 1, 2, 8, 20, 21)
		b = append(append(b, byte(n)), s.bytes(n)...)
	}
	if first&0x30 == 0 {
		n := s.one(0, 0, 0, 1, 3, 70)
		b = append(append(b, s.sized(n)...), s.bytes(n)...)
	}
	n := s.one(0, 1, 2, 3, 4, 4, 5, 5, 9, 30, 64, 100)
	b = append(b, s.sized(n)...)
	return append(b, s.bytes(n)...)
}

// sized is a number of up to two bytes in one of the widths in which it can stand.
func (s source) sized(n int) []byte {
	v := uint64(n)
	switch k := s.below(4); {
	case k == 0 && n < 64:
		return []byte{byte(v)}
	case k <= 1:
		return []byte{0x40 | byte(v>>8), byte(v)}
	case k == 2:
		return []byte{0x80, 0, byte(v >> 8), byte(v)}
	}
	return []byte{0xc0, 0, 0, 0, 0, 0, byte(v >> 8), byte(v)}
}

// modelRead reads a packet by P5.3's words, in numbers without an end, and ends at the first thing that is wrong.
func modelRead(b []byte, at, idlen int, largest [api.Spaces]int64) (p api.Packet, end int, err api.Errno) {
	if at < 0 || at > len(b) || idlen < 0 || idlen > 20 {
		return p, 0, api.ErrArg
	}
	for _, n := range largest {
		if n < -1 || n > last {
			return p, 0, api.ErrArg
		}
	}
	rest := b[at:]
	defer func() {
		if wrong := recover(); wrong != nil {
			p, end, err = api.Packet{}, 0, wrong.(api.Errno)
		}
	}()
	take := func(n *big.Int) []byte {
		if n.Cmp(big.NewInt(int64(len(rest)))) > 0 {
			panic(api.ErrPacketShort)
		}
		part := rest[:n.Int64()]
		rest = rest[n.Int64():]
		return part
	}
	some := func(n int) []byte { return take(big.NewInt(int64(n))) }
	sized := func() *big.Int {
		if len(rest) == 0 {
			panic(api.ErrPacketShort)
		}
		part := bytes.Clone(some(1 << (rest[0] / 64)))
		part[0] %= 64
		return new(big.Int).SetBytes(part)
	}
	number := func(space, width int) int64 { return modelWhole(largest[space], some(width)) }

	first := some(1)[0]
	bit := func(n int) bool { return first>>(8-n)&1 == 1 } // the first is 1
	p.Width = int(first%4) + 1
	if !bit(1) {
		if !bit(2) || bit(4) || bit(5) {
			panic(api.ErrPacketBit)
		}
		p.Space = api.App
		p.Dst = some(idlen)
		p.Number = number(api.App, p.Width)
		p.Payload = some(len(rest))
		return p, len(b), api.OK
	}
	if !bit(2) || bit(5) || bit(6) {
		panic(api.ErrPacketBit)
	}
	if !bytes.Equal(some(4), []byte{0, 0, 0, 1}) {
		panic(api.ErrPacketVersion)
	}
	if bit(4) {
		panic(api.ErrPacketKind)
	}
	if bit(3) {
		p.Space = api.Handshake
	}
	for _, id := range []*[]byte{&p.Dst, &p.Src} {
		n := some(1)[0]
		if n > 20 {
			panic(api.ErrPacketField)
		}
		*id = some(int(n))
	}
	if p.Space == api.Initial {
		take(sized())
	}
	n := sized()
	if n.Cmp(big.NewInt(int64(p.Width))) < 0 {
		panic(api.ErrPacketField)
	}
	behind := len(rest)
	whole := take(n)
	rest = whole
	p.Number = number(p.Space, p.Width)
	p.Payload = rest
	return p, len(b) - behind + len(whole), api.OK
}

// modelWhole looks for the nearest number that ends so, from largest + 1 on to both sides.
func modelWhole(largest int64, low []byte) int64 {
	span := new(big.Int).Lsh(big.NewInt(1), uint(8*len(low)))
	next := big.NewInt(largest + 1)
	n := new(big.Int).SetBytes(low)
	// n, and whole spans on it, up to the last that isn't above next.
	if next.Cmp(n) > 0 {
		steps := new(big.Int).Div(new(big.Int).Sub(next, n), span)
		n.Add(n, steps.Mul(steps, span))
	}
	above := new(big.Int).Add(n, span)
	ahead, back := new(big.Int).Sub(above, next), new(big.Int).Sub(next, n)
	if ahead.Cmp(back) <= 0 && above.Cmp(big.NewInt(last)) <= 0 {
		return above.Int64()
	}
	if n.Cmp(big.NewInt(last)) > 0 {
		n.Sub(n, span)
	}
	return n.Int64()
}

func TestDecodeIsTheModel(t *testing.T) {
	s := newSource(3)
	told := map[api.Errno]int{}
	for i := range 100000 {
		b := s.datagram()
		idlen, largest := s.arguments()
		at := 0
		if i%3 == 0 {
			at = s.below(len(b) + 1)
		}
		if i%50 == 0 {
			idlen = s.one(-1, 21)
		}
		want, place, wrong := modelRead(b, at, idlen, largest)
		p, end, err := Decode(b, at, idlen, largest)
		if !same(p, want) || end != place || err != wrong {
			t.Fatalf("P5.3: Decode(%x, %d, %d, %v) = %+v, %d, %d, want %+v, %d, %d", b, at, idlen, largest, p, end, err, want, place, wrong)
		}
		told[err]++
	}
	for _, e := range []api.Errno{api.OK, api.ErrArg, api.ErrPacketShort, api.ErrPacketBit, api.ErrPacketVersion, api.ErrPacketKind, api.ErrPacketField} {
		if told[e] < 500 {
			t.Errorf("the answer %d came %d times alone", e, told[e])
		}
	}
}
