package pack

import (
	"math"
	"strings"
	"testing"

	"portage/api"
)

func TestBuildExamples(t *testing.T) {
	i, a := packetI(), packetA()
	builds(t, "P20.1", 1200, 0, []api.Packet{i, a}, bytesI+bytesA, 15, 5)
	builds(t, "P20.1", 1200, 1200, []api.Packet{i, a}, bytesI+bytesA+noughts(1180), 15, 1185)
	builds(t, "P20.1", 1200, 17, []api.Packet{i}, "\xc0"+version+"\x02\x01\x02\x01\x03\x00\x40\x04\x05\x01\x00\x00", 17)
	refuses(t, "P20.1", 19, 0, []api.Packet{i, a}, api.ErrPackRoom)
	refuses(t, "P20.1", 1200, 0, []api.Packet{a, i}, api.ErrArg)
	refuses(t, "P20.1", 1200, 0, []api.Packet{i, i}, api.ErrArg)
	refuses(t, "P20.1", 5, 6, []api.Packet{a}, api.ErrArg)
	refuses(t, "P20.1", -1, 0, nil, api.ErrArg)
	refuses(t, "P20.1", 65536, 0, nil, api.ErrArg)
	builds(t, "P20.1", 1200, 1200, nil, "")
	refuses(t, "P20.1", 1200, 0, []api.Packet{wide(i, 0), a}, api.ErrPacketField)
}

// One packet, two and three, of each space, without padding.
func TestBuildLaysPacketsOneBehindTheOther(t *testing.T) {
	i, h, a := packetI(), packetH(), packetA()
	for _, c := range []struct {
		what  string
		l     []api.Packet
		want  string
		sizes []int
	}{
		{"Initial", []api.Packet{i}, bytesI, []int{15}},
		{"Handshake", []api.Packet{h}, bytesH, []int{16}},
		{"App", []api.Packet{a}, bytesA, []int{5}},
		{"Initial and Handshake", []api.Packet{i, h}, bytesI + bytesH, []int{15, 16}},
		{"Initial and App", []api.Packet{i, a}, bytesI + bytesA, []int{15, 5}},
		{"Handshake and App", []api.Packet{h, a}, bytesH + bytesA, []int{16, 5}},
		{"all three", []api.Packet{i, h, a}, bytesI + bytesH + bytesA, []int{15, 16, 5}},
		{"no payload", []api.Packet{with(i, ""), with(a, "")}, bytesI[:12] + "\x01\x05" + bytesA[:4], []int{14, 4}},
	} {
		for _, least := range []int{0, 1, len(c.want) - 1, len(c.want)} {
			builds(t, "P20.1: "+c.what, 1200, least, c.l, c.want, c.sizes...)
		}
		builds(t, "P20.1: just room, "+c.what, len(c.want), 0, c.l, c.want, c.sizes...)
		builds(t, "P20.1: just room and least, "+c.what, len(c.want), len(c.want), c.l, c.want, c.sizes...)
		builds(t, "P20.1: the greatest room, "+c.what, 65535, 0, c.l, c.want, c.sizes...)
		refuses(t, "P20.1: one more than room, "+c.what, len(c.want)-1, 0, c.l, api.ErrPackRoom)
		refuses(t, "P20.1: one more than room, with least, "+c.what, len(c.want)-1, len(c.want)-1, c.l, api.ErrPackRoom)
		refuses(t, "P20.1: room 0, "+c.what, 0, 0, c.l, api.ErrPackRoom)
	}
}

// Padding stands at the end of the last packet's payload, of that one alone; if it is long its length tells it.
func TestBuildPads(t *testing.T) {
	i, h, a := packetI(), packetH(), packetA()
	headI, headH := bytesI[:11], bytesH[:10] // up to the length
	builds(t, "P20.1: Initial, by one", 1200, 16, []api.Packet{i}, headI+"\x40\x03\x05\x01\x00", 16)
	builds(t, "P20.1: Initial, to 1200", 1200, 1200, []api.Packet{i}, headI+"\x44\xa3\x05\x01"+noughts(1185), 1200)
	builds(t, "P20.1: Handshake, by two", 1200, 18, []api.Packet{h}, headH+"\x40\x06\x01\x02\x01\x01\x00\x00", 18)
	builds(t, "P20.1: App, by one", 1200, 6, []api.Packet{a}, bytesA+"\x00", 6)
	builds(t, "P20.1: App, up to the greatest room", 65535, 65535, []api.Packet{a}, bytesA+noughts(65530), 65535)
	builds(t, "P20.1: Initial and Handshake", 1200, 33, []api.Packet{i, h}, bytesI+headH+"\x40\x06\x01\x02\x01\x01\x00\x00", 15, 18)
	builds(t, "P20.1: Initial and App", 1200, 22, []api.Packet{i, a}, bytesI+bytesA+"\x00\x00", 15, 7)
	builds(t, "P20.1: Handshake and App", 23, 23, []api.Packet{h, a}, bytesH+bytesA+"\x00\x00", 16, 7)
	builds(t, "P20.1: all three", 1200, 39, []api.Packet{i, h, a}, bytesI+bytesH+bytesA+"\x00\x00\x00", 15, 16, 8)
	builds(t, "P20.1: no payload of its own", 1200, 17, []api.Packet{with(i, "")}, headI+"\x40\x04\x05\x00\x00\x00", 17)
	builds(t, "P20.1: no payload of its own, App", 1200, 6, []api.Packet{with(a, "")}, bytesA[:4]+"\x00\x00", 6)
}

// The length stands in two bytes, also where one would do for what was there without the padding, so the padding brings no byte beside it.
func TestBuildPadsBeyondALengthOfOneByte(t *testing.T) {
	p := with(packetI(), strings.Repeat("p", 61)) // a length of 62, 75 bytes in all
	for least, length := range map[int]string{75: "\x40\x3e", 76: "\x40\x3f", 77: "\x40\x40", 78: "\x40\x41", 269: "\x41\x00"} {
		builds(t, "P20.1", 1200, least, []api.Packet{p}, bytesI[:11]+length+"\x05"+strings.Repeat("p", 61)+noughts(least-75), least)
	}
}

// What the payload says is not looked at.
func TestBuildTakesAnyPayload(t *testing.T) {
	for _, payload := range []string{"\x08\x04tail", "\xff\xff", "\x41", "\x00", "\x06\x00\x04a"} {
		builds(t, "P20.1", 1200, 20, []api.Packet{with(packetA(), payload)}, bytesA[:4]+payload+noughts(16-len(payload)), 20)
	}
}

func TestBuildOfNoPackets(t *testing.T) {
	for _, least := range []int{0, 1, 14, 15} {
		builds(t, "P20.1: no packets", 15, least, nil, "")
		builds(t, "P20.1: a list without one", 15, least, []api.Packet{}, "")
	}
	builds(t, "P20.1: no room either", 0, 0, nil, "")
	builds(t, "P20.1: the greatest of both", 65535, 65535, nil, "")
	for _, least := range []int{16, -1, math.MinInt, math.MaxInt} {
		refuses(t, "P20.1: no packets", 15, least, nil, api.ErrArg)
	}
	if b, sizes, err := Build(15, 3); len(b) != 0 || len(sizes) != 0 || err != api.OK {
		t.Errorf("P20.1: Build(15, 3) = %x, %v, %d", b, sizes, err)
	}
}

func TestBuildRefusesRoomAndLeast(t *testing.T) {
	bad := in(wide(packetA(), 0), 9)
	for _, l := range [][]api.Packet{nil, {packetA()}, {packetI(), packetA()}, {bad}, {packetA(), packetI()}} {
		for _, room := range []int{-1, math.MinInt, 65536, math.MaxInt} {
			for _, least := range []int{0, 1, 1200, room, math.MinInt, math.MaxInt} {
				refuses(t, "P20.1: room", room, least, l, api.ErrArg)
			}
		}
		for _, room := range []int{0, 4, 5, 1200, 65535} {
			for _, least := range []int{-1, math.MinInt, room + 1, 65536, math.MaxInt} {
				refuses(t, "P20.1: least", room, least, l, api.ErrArg)
			}
		}
	}
}

func TestBuildRefusesSpacesThatDoNotRise(t *testing.T) {
	for _, spaces := range [][]int{
		{0, 0}, {1, 1}, {2, 2}, {1, 0}, {2, 0}, {2, 1}, {0, 0, 2}, {0, 1, 1}, {0, 2, 1}, {1, 0, 2}, {2, 1, 0}, {0, 2, 2}, {0, 1, 0}, {0, 1, 2, 2}, {0, 1, 2, 0},
		{-1, -1}, {9, 9}, {9, 0}, {0, -1}, {math.MaxInt, math.MinInt}, {math.MinInt, math.MinInt}, {-1, 0, 0}, {7, 8, 7},
	} {
		var l []api.Packet
		for _, space := range spaces {
			l = append(l, of(space, "d", "", 1, 1, "p"))
		}
		refuses(t, "P20.1: spaces", 1200, 0, l, api.ErrArg)
		refuses(t, "P20.1: spaces ahead of room", 1, 0, l, api.ErrArg)
		l[0].Width = 0
		refuses(t, "P20.1: spaces ahead of packets", 1200, 1200, l, api.ErrArg)
	}
}

// A refusal is a change with which packet.Encode does not take a packet.
type refusal struct {
	what string
	of   func(api.Packet) api.Packet
}

// refusals are those of ErrPacketField, which no space is needed for.
func refusals() []refusal {
	return []refusal{
		{"Width 0", func(p api.Packet) api.Packet { return wide(p, 0) }},
		{"Width 5", func(p api.Packet) api.Packet { return wide(p, 5) }},
		{"the least Width", func(p api.Packet) api.Packet { return wide(p, math.MinInt) }},
		{"the greatest Width", func(p api.Packet) api.Packet { return wide(p, math.MaxInt) }},
		{"Dst of 21", func(p api.Packet) api.Packet { p.Dst = []byte(many); return p }},
		{"Src of 21", func(p api.Packet) api.Packet { p.Src = []byte(many); return p }},
		{"Number -1", func(p api.Packet) api.Packet { p.Number = -1; return p }},
		{"Number 2^62", func(p api.Packet) api.Packet { p.Number = last + 1; return p }},
	}
}

// A packet that is refused, first, between and last: with padding and without, whether there is room or not.
func TestBuildHandsOnWhyAPacketIsRefused(t *testing.T) {
	good := []api.Packet{packetI(), packetH(), packetA()}
	for at := range good {
		for _, r := range refusals() {
			l := append([]api.Packet(nil), good...)
			l[at] = r.of(l[at])
			for _, least := range []int{0, 1, 1200} {
				refuses(t, "P20.1: "+r.what, 1200, least, l, api.ErrPacketField)
				refuses(t, "P20.1: alone, "+r.what, 1200, least, l[at:at+1], api.ErrPacketField)
			}
			refuses(t, "P20.1: ahead of room, "+r.what, 1, 0, l, api.ErrPacketField)
			refuses(t, "P20.1: ahead of room 0, "+r.what, 0, 0, l[:at+1], api.ErrPacketField)
			refuses(t, "P20.1: the greatest least, "+r.what, 65535, 65535, l[at:at+1], api.ErrPacketField)
		}
	}
	a := packetA()
	a.Src = []byte("s")
	refuses(t, "P20.1: Src in App", 1200, 1200, []api.Packet{packetI(), a}, api.ErrPacketField)
	for _, l := range [][]api.Packet{{in(packetI(), -1)}, {in(packetI(), 3)}, {packetI(), packetH(), packetA(), in(packetI(), 3)}, {in(packetI(), math.MinInt), packetI()}, {packetI(), in(packetI(), math.MaxInt)}} {
		for _, least := range []int{0, 1200} {
			refuses(t, "P20.1: no such space", 1200, least, l, api.ErrPacketKind)
		}
		refuses(t, "P20.1: no such space, ahead of room", 0, 0, l, api.ErrPacketKind)
	}
}

// Of two that are refused the first one's error is told.
func TestBuildTellsTheFirstThatIsRefused(t *testing.T) {
	field, kind := wide(packetI(), 0), in(packetI(), 3)
	refuses(t, "P20.1", 1200, 0, []api.Packet{field, kind}, api.ErrPacketField)
	refuses(t, "P20.1", 1200, 1200, []api.Packet{packetI(), wide(packetH(), 9), kind}, api.ErrPacketField)
	refuses(t, "P20.1", 1200, 0, []api.Packet{in(field, -1), packetI(), wide(packetA(), 0)}, api.ErrPacketKind)
	refuses(t, "P20.1", 1200, 0, []api.Packet{in(packetI(), -1), wide(packetI(), 0)}, api.ErrPacketKind)
	refuses(t, "P20.1", 1200, 0, []api.Packet{packetI(), packetH(), wide(packetA(), 0), kind}, api.ErrPacketField)
	var l []api.Packet
	for space := range 1000 {
		l = append(l, of(space, "", "", 1, 1, ""))
	}
	refuses(t, "P20.1: a thousand spaces", 65535, 65535, l, api.ErrPacketKind)
}

// A long packet may have 16383 bytes of number and payload together: one byte of padding more, and it is refused by that alone.
func TestBuildRefusesByPaddingAlone(t *testing.T) {
	for _, c := range []struct {
		what  string
		l     []api.Packet
		whole int // bytes of the datagram at the greatest length
		head  string
		sizes []int
	}{
		{"Initial", []api.Packet{packetI()}, 13 + 16383, bytesI[:11] + "\x7f\xff\x05\x01", []int{13 + 16383}},
		{"Handshake", []api.Packet{packetH()}, 12 + 16383, bytesH[:10] + "\x7f\xff" + bytesH[12:], []int{12 + 16383}},
		{"Initial and Handshake", []api.Packet{packetI(), packetH()}, 27 + 16383, bytesI + bytesH[:10] + "\x7f\xff" + bytesH[12:], []int{15, 12 + 16383}},
	} {
		builds(t, "P20.1: "+c.what, 65535, c.whole, c.l, c.head+noughts(c.whole-len(c.head)), c.sizes...)
		builds(t, "P20.1: just room, "+c.what, c.whole, c.whole, c.l, c.head+noughts(c.whole-len(c.head)), c.sizes...)
		refuses(t, "P20.1: "+c.what, 65535, c.whole+1, c.l, api.ErrPacketField)
		refuses(t, "P20.1: "+c.what, 65535, 65535, c.l, api.ErrPacketField)
	}
	// The padding is the last packet's alone: a full packet ahead of it is taken.
	full := with(packetI(), strings.Repeat("p", 16382))
	b, sizes, err := Build(65535, 20000, full, packetA())
	if len(b) != 20000 || len(sizes) != 2 || sizes[0] != 16396 || sizes[1] != 3604 || err != api.OK {
		t.Errorf("P20.1: a full packet ahead: %d bytes, %v, %d", len(b), sizes, err)
	}
	refuses(t, "P20.1: no padding, and too long", 65535, 0, []api.Packet{with(packetI(), strings.Repeat("p", 16383))}, api.ErrPacketField)
}

// A short packet may have more than any datagram: it is refused for its room then.
func TestBuildRefusesLongPayloads(t *testing.T) {
	a := packetA()
	builds(t, "P20.1", 65535, 0, []api.Packet{with(a, strings.Repeat("p", 65531))}, bytesA[:4]+strings.Repeat("p", 65531), 65535)
	for _, n := range []int{65532, 65536, 200000} {
		refuses(t, "P20.1", 65535, 65535, []api.Packet{with(a, strings.Repeat("p", n))}, api.ErrPackRoom)
	}
	refuses(t, "P20.1: ahead of it one", 65535, 0, []api.Packet{packetI(), with(a, strings.Repeat("p", 65531))}, api.ErrPackRoom)
	refuses(t, "P20.1: the first is too long already", 14, 14, []api.Packet{packetI(), packetA()}, api.ErrPackRoom)
}
