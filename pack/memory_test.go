package pack

import (
	"slices"
	"strings"
	"sync"
	"testing"

	"portage/api"
)

// roomy is a list of these bytes with the same ones behind it, as spare room.
func roomy(text []byte) []byte { return slices.Concat(text, text)[: len(text) : 2*len(text)] }

// spoil writes over bytes, with the room behind them.
func spoil(b []byte) {
	for i := range b[:cap(b)] {
		b[:cap(b)][i] ^= 0xff
	}
}

// handed makes packets whose lists all have spare room, in a list that has some too.
func handed(l ...api.Packet) []api.Packet {
	in := make([]api.Packet, 0, len(l)+2)
	for _, p := range l {
		p.Dst, p.Src, p.Payload = roomy(p.Dst), roomy(p.Src), roomy(p.Payload)
		in = append(in, p)
	}
	spare := in[:cap(in)]
	for i := len(l); i < len(spare); i++ {
		spare[i] = api.Packet{Space: 77, Payload: []byte("spare")}
	}
	return in
}

// all are the bytes of packets to their depth, spare room too.
func all(l []api.Packet) string {
	var s strings.Builder
	for _, p := range l[:cap(l)] {
		for _, b := range [][]byte{p.Dst, p.Src, p.Payload} {
			s.Write(b[:cap(b)])
			s.WriteByte('|')
		}
		s.WriteByte(byte(p.Space))
		s.WriteByte(byte(p.Width))
		s.WriteByte(byte(p.Number))
		s.WriteByte(byte(len(p.Payload)))
	}
	return s.String()
}

func spoilAll(l []api.Packet) {
	for i := range l[:cap(l)] {
		p := &l[:cap(l)][i]
		spoil(p.Dst)
		spoil(p.Src)
		spoil(p.Payload)
		*p = api.Packet{Space: -9, Width: -9, Number: -9}
	}
}

// R3: what is handed in isn't changed, nor the room behind it, nor kept; what is answered is new memory.
func TestMemory(t *testing.T) {
	i, h, a := packetI(), packetH(), packetA()
	for _, c := range []struct {
		room, least int
		l           []api.Packet
		err         api.Errno
	}{
		{1200, 0, []api.Packet{i}, api.OK}, {1200, 0, []api.Packet{a}, api.OK}, {1200, 16, []api.Packet{i}, api.OK}, {1200, 17, []api.Packet{h}, api.OK},
		{1200, 6, []api.Packet{a}, api.OK}, {1200, 1200, []api.Packet{a}, api.OK}, {1200, 37, []api.Packet{i, h, a}, api.OK}, {1200, 1200, []api.Packet{i, h, a}, api.OK},
		{1200, 0, []api.Packet{i, h, a}, api.OK}, {1200, 1200, []api.Packet{i, h}, api.OK}, {1200, 1200, []api.Packet{i, h, wide(a, 0)}, api.ErrPacketField},
		{1200, 1200, []api.Packet{wide(i, 9), h}, api.ErrPacketField}, {65535, 30000, []api.Packet{i, h}, api.ErrPacketField}, {20, 20, []api.Packet{i, h}, api.ErrPackRoom},
		{1200, 1200, []api.Packet{h, i}, api.ErrArg}, {-1, 0, []api.Packet{i}, api.ErrArg}, {1200, 100, []api.Packet{i, in(a, 9)}, api.ErrPacketKind},
	} {
		l := handed(c.l...)
		before := all(l)
		b, sizes, err := Build(c.room, c.least, l...)
		if err != c.err || all(l) != before {
			t.Errorf("R3: Build(%d, %d, %d packets) answered %d, or changed what it was handed", c.room, c.least, len(c.l), err)
		}
		text, counts := string(b), slices.Clone(sizes)
		// What was answered is written over, in its spare room too: what was handed in stays.
		spare := string(b[:cap(b)])
		for k := range sizes[:cap(sizes)] {
			sizes[:cap(sizes)][k] = -7
		}
		if string(b[:cap(b)]) != spare {
			t.Error("R3: the datagram and the sizes share memory")
		}
		spoil(b)
		if all(l) != before {
			t.Error("R3: what Build answers is what it was handed")
		}
		again, sizes, _ := Build(c.room, c.least, l...)
		spoilAll(l)
		if string(again) != text || !slices.Equal(sizes, counts) {
			t.Errorf("R3: Build(%d, %d, %d packets) keeps something: %x, %v, want %x, %v", c.room, c.least, len(c.l), again, sizes, text, counts)
		}
	}
}

// Two answers share nothing, also if all lists handed in are one.
func TestAnswersShareNothing(t *testing.T) {
	one := []byte("\x01\x02\x03\x04")
	p := api.Packet{Dst: one, Src: one[1:3], Payload: one, Number: 1, Width: 1}
	q := api.Packet{Space: api.App, Dst: one[:2], Payload: one[:1], Number: 1, Width: 1}
	first, sizes, _ := Build(1200, 50, p, q)
	second, others, _ := Build(1200, 50, p, q)
	want, _, _ := modelBuild(1200, 50, []api.Packet{p, q})
	if string(first) != string(want) || string(one) != "\x01\x02\x03\x04" {
		t.Fatalf("R3: of lists that share: %x, want %x", first, want)
	}
	spoil(first)
	sizes[0] = -1
	if string(second) != string(want) || others[0] != 21 || others[1] != 29 {
		t.Errorf("R3: two answers share memory: %x, %v", second, others)
	}
}

func TestRoomChangesNothing(t *testing.T) {
	for _, p := range []api.Packet{packetI(), packetH(), packetA(), wide(packetI(), 0)} {
		l := handed(p)
		before := all(l)
		n := Room(1200, l[0], 15)
		if all(l) != before {
			t.Error("R3: Room has changed what it was handed")
		}
		if again := Room(1200, l[0], 15); again != n {
			t.Errorf("R4: Room is %d, then %d", n, again)
		}
	}
}

// R4: a nil list and an empty one are the same, and nothing is kept from call to call, nor between goroutines.
func TestNothingIsKept(t *testing.T) {
	p := of(api.Initial, "", "", 3, 1, "")
	q := api.Packet{Number: 3, Width: 1}
	for _, least := range []int{0, 30} {
		a, _, _ := Build(1200, least, p)
		b, _, _ := Build(1200, least, q)
		if len(a) == 0 || string(a) != string(b) {
			t.Errorf("R3: with empty lists %x, with nil %x", a, b)
		}
	}
	if Room(1200, p, 0) != Room(1200, q, 0) {
		t.Error("R3: Room tells nil and empty lists apart")
	}
	want, _, _ := Build(1200, 1200, packetI(), packetA())
	refuses(t, "R4", 19, 0, []api.Packet{packetI(), packetA()}, api.ErrPackRoom)
	refuses(t, "R4", 1200, 1200, []api.Packet{packetI(), wide(packetA(), 0)}, api.ErrPacketField)
	var wait sync.WaitGroup
	for range 8 {
		wait.Go(func() {
			for range 200 {
				if b, _, err := Build(1200, 1200, packetI(), packetA()); string(b) != string(want) || err != api.OK {
					t.Errorf("R4: Build answers otherwise: %d", err)
				}
			}
		})
	}
	wait.Wait()
}
