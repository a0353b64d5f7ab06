package pack

import (
	"slices"
	"strings"
	"testing"

	"portage/api"
	"portage/frame"
	"portage/packet"
)

// whatCame is a largest from which the packets' numbers are found again, whatever their widths.
func whatCame(l []api.Packet) [api.Spaces]int64 {
	largest := none
	for _, p := range l {
		largest[p.Space] = p.Number - 1
	}
	return largest
}

// idlen is how many bytes a short packet's Dst has, if the last is one.
func idlen(l []api.Packet) int {
	if len(l) == 0 || l[len(l)-1].Space != api.App {
		return 0
	}
	return len(l[len(l)-1].Dst)
}

// splits holds packet.Split of a datagram to the packets, the last one with padding behind its payload.
func splits(t *testing.T, b []byte, l []api.Packet, padding int) {
	t.Helper()
	got, at := packet.Split(b, idlen(l), whatCame(l))
	if at != len(b) || len(got) != len(l) {
		t.Fatalf("P20.3: of %d packets %d were found, up to %d of %d", len(l), len(got), at, len(b))
	}
	for i, p := range l {
		if i == len(l)-1 {
			p.Payload = append(slices.Clone(p.Payload), make([]byte, padding)...)
		}
		if !same(got[i], p) {
			t.Fatalf("P20.3: packet %d of %d is %+v, want %+v", i, len(l), got[i], p)
		}
	}
}

func TestSplitOfWhatWasBuilt(t *testing.T) {
	i, h, a := packetI(), packetH(), packetA()
	for _, l := range [][]api.Packet{{}, {i}, {h}, {a}, {i, h}, {i, a}, {h, a}, {i, h, a}} {
		b, sizes, err := Build(1200, 0, l...)
		if err != api.OK {
			t.Fatalf("P20.3: Build of %d packets = %d", len(l), err)
		}
		splits(t, b, l, 0)
		whole := len(b)
		for least := range 1201 {
			b, sizes, err = Build(1200, least, l...)
			if err != api.OK || len(l) > 0 && len(b) != max(least, whole) {
				t.Fatalf("P20.3: Build(1200, %d) of %d packets: %d bytes, %d", least, len(l), len(b), err)
			}
			splits(t, b, l, len(b)-whole)
			checkSizes(t, b, sizes, l)
		}
	}
}

// checkSizes holds the sizes to the datagram, and to packet.Encode of each packet, the last one with its padding.
func checkSizes(t *testing.T, b []byte, sizes []int, l []api.Packet) {
	t.Helper()
	if len(sizes) != len(l) {
		t.Fatalf("P20.3: %d sizes of %d packets", len(sizes), len(l))
	}
	whole, found := 0, b
	for i, p := range l {
		part, err := packet.Encode(p)
		if i == len(l)-1 {
			p.Payload = append(slices.Clone(p.Payload), make([]byte, len(found)-len(part))...)
			part, err = packet.Encode(p)
		}
		if err != api.OK || sizes[i] != len(part) || string(found[:sizes[i]]) != string(part) {
			t.Fatalf("P20.3: size %d is %d, want %d (%d)", i, sizes[i], len(part), err)
		}
		found = found[sizes[i]:]
		whole += sizes[i]
	}
	if whole != len(b) {
		t.Fatalf("P20.3: the sizes are %d together, the datagram has %d bytes", whole, len(b))
	}
}

func TestSplitOfWhatWasBuiltAtRandom(t *testing.T) {
	s := newSource(3)
	built := 0
	for range 20000 {
		l := s.packets()
		room, least := s.numbers(l)
		b, sizes, err := Build(room, least, l...)
		if err != api.OK {
			continue
		}
		built++
		whole := 0
		for _, p := range l {
			n, _ := packet.Overhead(p)
			whole += n + len(p.Payload)
		}
		if len(l) > 0 && len(b) != max(whole, least) {
			t.Fatalf("P20.1: Build(%d, %d) of %d bytes has %d", room, least, whole, len(b))
		}
		splits(t, b, l, len(b)-whole)
		checkSizes(t, b, sizes, l)
	}
	if built < 8000 {
		t.Errorf("%d datagrams were built alone", built)
	}
}

// The padding is read as a padding frame behind the frames that were there.
func TestPaddingIsAFrame(t *testing.T) {
	ping := api.Frame{Kind: api.KPing}
	for _, p := range []api.Packet{packetI(), packetH(), packetA()} {
		payload, err := frame.Join(ping, ping)
		if err != api.OK {
			t.Fatal(err)
		}
		p.Payload = payload
		b, _, err := Build(1200, 1200, p)
		if err != api.OK {
			t.Fatalf("P20.1: space %d: %d", p.Space, err)
		}
		n, _ := packet.Overhead(p)
		frames, _, err := frame.Parse(b[n:])
		if err != api.OK || len(frames) != 3 || frames[1].Kind != api.KPing || frames[2].Kind != api.KPadding || frames[2].Size != int64(1200-n-2) {
			t.Errorf("P20.1: space %d has the frames %+v, %d", p.Space, frames, err)
		}
	}
}

// P20.3: Build takes one packet with a payload of Room bytes, and refuses one with a byte more.
func TestBuildTakesRoom(t *testing.T) {
	heads := []api.Packet{packetI(), packetH(), packetA(), of(api.Initial, twenty, twenty, last, 4, ""), of(api.Handshake, "", "", 0, 3, ""), of(api.App, twenty, "", last, 4, "")}
	for _, p := range heads {
		n, _ := packet.Overhead(p)
		for _, room := range []int{n - 1, n, n + 1, n + 2, n + 62, n + 63, n + 64, 1200, 9000, 16382, 16383} {
			most := Room(room, p, 0)
			if (most == 0) != (room <= n) {
				t.Errorf("P20.2: Room(%d) with %d ahead of the payload = %d", room, n, most)
			}
			if most == 0 {
				continue
			}
			b, sizes, err := Build(room, 0, with(p, strings.Repeat("p", most)))
			if len(b) != room || len(sizes) != 1 || sizes[0] != room || err != api.OK {
				t.Errorf("P20.3: space %d, room %d: %d bytes, %v, %d", p.Space, room, len(b), sizes, err)
			}
			for _, least := range []int{0, room} {
				refuses(t, "P20.3: a byte more", room, least, []api.Packet{with(p, strings.Repeat("p", most+1))}, api.ErrPackRoom)
			}
		}
		// Above 16383 a long packet's own bound counts.
		most := Room(65535, p, 0)
		if _, _, err := Build(65535, 0, with(p, strings.Repeat("p", most))); err != api.OK {
			t.Errorf("P20.3: space %d, %d bytes: %d", p.Space, most, err)
		}
		want := api.ErrPacketField
		if p.Space == api.App {
			want = api.ErrPackRoom
		}
		refuses(t, "P20.3: a byte more than the most", 65535, 0, []api.Packet{with(p, strings.Repeat("p", most+1))}, want)
	}
}

// Room behind what Build told of the packets ahead fills a datagram just so.
func TestRoomBehindPackets(t *testing.T) {
	i, h, a := packetI(), packetH(), packetA()
	for _, l := range [][]api.Packet{{i, h}, {i, a}, {h, a}, {i, h, a}} {
		ahead, _, _ := Build(1200, 0, l[:len(l)-1]...)
		next := l[len(l)-1]
		for _, room := range []int{60, 1200, 9000} {
			most := Room(room, next, len(ahead))
			full := append(slices.Clone(l[:len(l)-1]), with(next, strings.Repeat("p", most)))
			b, _, err := Build(room, 0, full...)
			if len(b) != room || err != api.OK {
				t.Errorf("P20.2: %d packets in %d: %d bytes, %d", len(l), room, len(b), err)
			}
			full[len(l)-1] = with(next, strings.Repeat("p", most+1))
			refuses(t, "P20.2: a byte more", room, 0, full, api.ErrPackRoom)
		}
	}
}
