package pack

import (
	"math"
	"math/big"
	"math/rand/v2"
	"slices"
	"testing"

	"portage/api"
)

// modelRefuses reads P5.1 for a packet whose payload has so many bytes.
func modelRefuses(p api.Packet, payload int) api.Errno {
	if p.Space != api.Initial && p.Space != api.Handshake && p.Space != api.App {
		return api.ErrPacketKind
	}
	if len(p.Dst) > 20 || len(p.Src) > 20 || p.Space == api.App && len(p.Src) != 0 || p.Number < 0 || p.Number > last || p.Width < 1 || p.Width > 4 {
		return api.ErrPacketField
	}
	if p.Space != api.App && p.Width+payload > 16383 {
		return api.ErrPacketField
	}
	return api.OK
}

// modelHead writes what stands ahead of a payload of so many bytes, byte by byte.
func modelHead(p api.Packet, payload int) []byte {
	var b []byte
	switch p.Space {
	case api.Initial:
		b = append(b, 0b1100_0000+byte(p.Width)-1, 0, 0, 0, 1)
	case api.Handshake:
		b = append(b, 0b1110_0000+byte(p.Width)-1, 0, 0, 0, 1)
	default:
		b = append(b, 0b0100_0000+byte(p.Width)-1)
	}
	if p.Space != api.App {
		b = append(b, byte(len(p.Dst)))
	}
	b = append(b, p.Dst...)
	if p.Space != api.App {
		b = append(b, byte(len(p.Src)))
		b = append(b, p.Src...)
	}
	if p.Space == api.Initial {
		b = append(b, 0)
	}
	if p.Space != api.App {
		n := p.Width + payload
		b = append(b, 0b0100_0000+byte(n/256), byte(n%256))
	}
	for i := p.Width - 1; i >= 0; i-- {
		b = append(b, byte(p.Number>>(8*i)))
	}
	return b
}

// modelBuild reads P20.1: first it finds out how much padding there is, by the bytes of all packets without it.
func modelBuild(room, least int, l []api.Packet) ([]byte, []int, api.Errno) {
	if room < 0 || room > 65535 || least < 0 || least > room {
		return nil, nil, api.ErrArg
	}
	for i := 1; i < len(l); i++ {
		if l[i-1].Space >= l[i].Space {
			return nil, nil, api.ErrArg
		}
	}
	whole := 0
	for _, p := range l {
		if err := modelRefuses(p, len(p.Payload)); err != api.OK {
			return nil, nil, err
		}
		whole += len(modelHead(p, len(p.Payload))) + len(p.Payload)
	}
	var b []byte
	var sizes []int
	for i, p := range l {
		n := len(p.Payload)
		if i == len(l)-1 && whole < least {
			n += least - whole
		}
		if err := modelRefuses(p, n); err != api.OK {
			return nil, nil, err
		}
		from := len(b)
		b = append(append(b, modelHead(p, n)...), p.Payload...)
		for range n - len(p.Payload) {
			b = append(b, 0)
		}
		sizes = append(sizes, len(b)-from)
	}
	if len(b) > room {
		return nil, nil, api.ErrPackRoom
	}
	return b, sizes, api.OK
}

// modelRoom reads P20.2, in numbers without an end.
func modelRoom(room int, p api.Packet, ahead int) int {
	p.Number, p.Payload = 0, nil
	if ahead < 0 || modelRefuses(p, 0) != api.OK {
		return 0
	}
	left := big.NewInt(int64(room))
	left.Sub(left, big.NewInt(int64(ahead)))
	left.Sub(left, big.NewInt(int64(len(modelHead(p, 0)))))
	if left.Sign() < 0 {
		return 0
	}
	most := big.NewInt(int64(16383 - p.Width))
	if p.Space != api.App && left.Cmp(most) > 0 {
		return int(most.Int64())
	}
	return int(left.Int64())
}

// A source makes arguments, the same at every run.
type source struct{ *rand.Rand }

func newSource(seed uint64) source { return source{rand.New(rand.NewPCG(seed, 20))} }

func (s source) one(l ...int) int { return l[s.IntN(len(l))] }

func (s source) bytes(n int) []byte {
	b := make([]byte, n)
	for i := range b {
		b[i] = byte(s.Uint32())
	}
	return b
}

// packet makes one that may be.
func (s source) packet(space int) api.Packet {
	p := api.Packet{Space: space, Dst: s.bytes(s.one(0, 1, 8, 20)), Width: 1 + s.IntN(4), Number: s.Int64N(last), Payload: s.bytes(s.one(0, 0, 1, 2, 58, 60, 61, 62, 63, 64, 300))}
	if s.IntN(3) == 0 {
		p.Number = int64(s.IntN(300))
	}
	if space != api.App {
		p.Src = s.bytes(s.one(0, 1, 8, 20))
	}
	if s.IntN(30) == 0 {
		p.Payload = s.bytes(s.one(16378, 16379, 16380, 16381, 16382, 16383, 17000, 65000, 65535))
	}
	return p
}

// spoilt makes a packet of one that may be, in which one thing may not be.
func (s source) spoilt(p api.Packet) api.Packet {
	switch s.IntN(6) {
	case 0:
		p.Width = s.one(0, 5, -1, math.MinInt, math.MaxInt)
	case 1:
		p.Dst = s.bytes(21)
	case 2:
		p.Src = s.bytes(s.one(1, 20, 21))
	case 3:
		p.Number = int64(s.one(-1, last+1, math.MinInt, math.MaxInt))
	case 4:
		p.Space = s.one(-1, 3, 7, math.MinInt, math.MaxInt)
	default:
		p.Space = s.IntN(api.Spaces)
	}
	return p
}

// packets makes a list, of which most may be.
func (s source) packets() []api.Packet {
	var l []api.Packet
	for space := range api.Spaces {
		if s.IntN(2) == 0 {
			l = append(l, s.packet(space))
		}
	}
	if s.IntN(4) == 0 && len(l) > 0 {
		at := s.IntN(len(l))
		l[at] = s.spoilt(l[at])
	}
	if s.IntN(20) == 0 {
		s.Shuffle(len(l), func(i, j int) { l[i], l[j] = l[j], l[i] })
	}
	return l
}

// numbers makes a room and a least near what the packets have.
func (s source) numbers(l []api.Packet) (int, int) {
	whole := 0
	for _, p := range l {
		if modelRefuses(p, 0) == api.OK {
			whole += len(modelHead(p, 0)) + len(p.Payload)
		}
	}
	room := s.one(1200, 1200, whole-1, whole, whole+1, whole+2, s.IntN(2000), 16396, 16397, 20000, 65535, 65536, 0, -1)
	least := s.one(0, 0, 1200, whole-1, whole, whole+1, whole+2, whole+70, room, room-1, room+1, s.IntN(2000), -1)
	if s.IntN(4) > 0 {
		room = max(room, least)
	}
	return room, least
}

func TestBuildIsTheModel(t *testing.T) {
	s := newSource(1)
	told := map[api.Errno]int{}
	padded := 0
	for range 60000 {
		l := s.packets()
		room, least := s.numbers(l)
		want, wantSizes, wrong := modelBuild(room, least, l)
		b, sizes, err := Build(room, least, l...)
		if !slices.Equal(b, want) || !slices.Equal(sizes, wantSizes) || err != wrong {
			t.Fatalf("P20.1: Build(%d, %d, %+v) = %d bytes, %v, %d, want %d bytes, %v, %d", room, least, l, len(b), sizes, err, len(want), wantSizes, wrong)
		}
		told[err]++
		if err == api.OK && least > 0 && len(b) == least {
			padded++
		}
	}
	for _, e := range []api.Errno{api.OK, api.ErrArg, api.ErrPacketKind, api.ErrPacketField, api.ErrPackRoom} {
		if told[e] < 500 {
			t.Errorf("the answer %d came %d times alone", e, told[e])
		}
	}
	if padded < 5000 {
		t.Errorf("%d datagrams were padded alone", padded)
	}
}

func TestRoomIsTheModel(t *testing.T) {
	s := newSource(2)
	some := 0
	for range 60000 {
		p := s.packet(s.IntN(api.Spaces))
		if s.IntN(5) == 0 {
			p = s.spoilt(p)
		}
		ahead := s.one(0, 0, 1, s.IntN(100), s.IntN(70000), -1, math.MinInt, math.MaxInt, math.MaxInt-60)
		room := s.one(1200, s.IntN(100), s.IntN(70000), 16383, 65535, math.MinInt, math.MaxInt, -1, 0)
		if s.IntN(2) == 0 && ahead >= 0 && ahead < 1<<20 {
			room = ahead + s.IntN(60)
		}
		want := modelRoom(room, p, ahead)
		if n := Room(room, p, ahead); n != want {
			t.Fatalf("P20.2: Room(%d, %+v, %d) = %d, want %d", room, p, ahead, n, want)
		}
		if want > 0 {
			some++
		}
	}
	if some < 10000 {
		t.Errorf("there was room %d times alone", some)
	}
}
