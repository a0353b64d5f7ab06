package packet

import (
	"math"
	"strings"
	"testing"

	"portage/api"
)

func TestSplitExamples(t *testing.T) {
	rows := table()
	first, third := rows[0], rows[2]
	one := third.p
	one.Number = 1
	for _, c := range []struct {
		what string
		b    string
		want []api.Packet
		at   int
	}{
		{"a long one and a short one", first.b + third.b, []api.Packet{first.p, one}, 23},
		{"noughts behind", first.b + "\x00\x00", []api.Packet{first.p}, 15},
		{"one of another version behind", first.b + first.b + "\xc0\x00\x00\x00\x02", []api.Packet{first.p, first.p}, 30},
		{"one that lacks its end behind", first.b + first.b[:14], []api.Packet{first.p}, 15},
		{"a short one goes to the end", third.b + first.b, []api.Packet{of(api.App, "\xaa\xbb", "", 1, 4, "\x01"+first.b)}, 23},
		{"nothing that can be read", "\x00" + first.b, nil, 0},
		{"a datagram without a byte", "", nil, 0},
	} {
		l, at := Split([]byte(c.b), 2, none)
		if !sameList(l, c.want) || at != c.at {
			t.Errorf("P5.4: %s: %+v, %d, want %+v, %d", c.what, l, at, c.want, c.at)
		}
	}
}

func sameList(a, b []api.Packet) bool {
	for i := range min(len(a), len(b)) {
		if !same(a[i], b[i]) {
			return false
		}
	}
	return len(a) == len(b)
}

func TestSplitRefusesArguments(t *testing.T) {
	b := []byte(table()[0].b)
	for _, idlen := range []int{-1, 21, math.MinInt, math.MaxInt} {
		if l, at := Split(b, idlen, none); len(l) != 0 || at != 0 {
			t.Errorf("P5.4: idlen %d: %+v, %d", idlen, l, at)
		}
		if l, at := Split(nil, idlen, none); len(l) != 0 || at != 0 {
			t.Errorf("P5.4: nothing, idlen %d: %+v, %d", idlen, l, at)
		}
	}
	for space := range api.Spaces {
		for _, n := range []int64{-2, last + 1, math.MinInt64, math.MaxInt64} {
			largest := none
			largest[space] = n
			if l, at := Split(b, 2, largest); len(l) != 0 || at != 0 {
				t.Errorf("P5.4: largest %v: %+v, %d", largest, l, at)
			}
		}
	}
	if l, at := Split(b, 20, [api.Spaces]int64{last, last, last}); len(l) != 1 || at != len(b) {
		t.Errorf("P5.4: idlen 20, the greatest largest: %+v, %d", l, at)
	}
}

// The same idlen and the same largest count for each packet, whatever stood ahead of it.
func TestSplitAsksTheSameOfEach(t *testing.T) {
	long := "\xe0" + version1 + "\x00\x00\x01\xf0"
	l, at := Split([]byte(long+long+long), 0, [api.Spaces]int64{-1, 300, -1})
	if len(l) != 3 || at != 3*len(long) {
		t.Fatalf("P5.4: %+v, %d", l, at)
	}
	for _, p := range l {
		if p.Number != 240 {
			t.Errorf("P5.4: Number %d, want 240", p.Number)
		}
	}
}

// Split is Decode, again and again, up to the first error.
func TestSplitIsDecodeAgainAndAgain(t *testing.T) {
	s := newSource(7)
	for range 20000 {
		b := s.datagram()
		idlen, largest := s.arguments()
		var want []api.Packet
		place := 0
		for place < len(b) {
			p, end, err := Decode(b, place, idlen, largest)
			if err != api.OK {
				break
			}
			want, place = append(want, p), end
		}
		if l, at := Split(b, idlen, largest); !sameList(l, want) || at != place {
			t.Fatalf("P5.4: Split(%x, %d, %v) = %+v, %d, want %+v, %d", b, idlen, largest, l, at, want, place)
		}
	}
}

// P5.5: long packets one behind the other, and perhaps a short one, are just these.
func TestSplitOfWhatWasWritten(t *testing.T) {
	s := newSource(11)
	for range 5000 {
		idlen, largest := s.arguments()
		var want []api.Packet
		var b []byte
		for n := s.below(6); len(want) < n; {
			space := s.below(2)
			if len(want) == n-1 && s.below(2) == 0 {
				space = api.App
			}
			p := s.packet(space, idlen, largest)
			e, err := Encode(p)
			if err != api.OK {
				t.Fatalf("P5.5: Encode(%+v) = %d", p, err)
			}
			b, want = append(b, e...), append(want, p)
		}
		if l, at := Split(b, idlen, largest); !sameList(l, want) || at != len(b) {
			t.Fatalf("P5.5: Split(%x, %d, %v) = %+v, %d, want %+v", b, idlen, largest, l, at, want)
		}
	}
}

// P5.5: what Encode writes Decode reads, whatever stands ahead of it, and behind it if it is long.
func TestWhatIsWrittenIsRead(t *testing.T) {
	for _, c := range table() {
		for _, ahead := range []string{"", "\x00", "\xff\xff", c.b} {
			for _, behind := range []string{"", "\x00", "\xff\xff", c.b} {
				if c.p.Space == api.App && behind != "" {
					continue
				}
				p, end, err := Decode([]byte(ahead+c.b+behind), len(ahead), len(c.p.Dst), whatCame(c.p))
				if !same(p, c.p) || end != len(ahead)+len(c.b) || err != api.OK {
					t.Errorf("P5.5: %.20x.. in its surroundings: %d, %d", c.b, end, err)
				}
			}
		}
	}
}

// P5.5: what Decode reads Encode takes, but of a long packet whose length is above 16383; and that is read as the same packet.
func TestWhatIsReadIsWritten(t *testing.T) {
	s := newSource(13)
	read := 0
	for range 40000 {
		b := s.datagram()
		idlen, largest := s.arguments()
		p, end, err := Decode(b, 0, idlen, largest)
		if err != api.OK {
			continue
		}
		read++
		again, err := Encode(p)
		if err != api.OK {
			t.Fatalf("P5.5: Encode of what was read of %x: %d", b[:end], err)
		}
		if p.Space == api.Initial && again[7+len(p.Dst)+len(p.Src)] != 0 {
			t.Fatalf("P5.5: %x has a token", again)
		}
		q, place, err := Decode(again, 0, idlen, largest)
		if !same(p, q) || place != len(again) || err != api.OK {
			t.Fatalf("P5.5: %x was read as %+v, and written again as %+v, %d", b, p, q, err)
		}
	}
	if read < 5000 {
		t.Errorf("%d packets were read alone", read)
	}
	for size, want := range map[int]api.Errno{16382: api.OK, 16383: api.ErrPacketField} {
		b := []byte("\xe0" + version1 + "\x00\x00\x80\x00" + string([]byte{byte((size + 1) >> 8), byte(size + 1)}) + "\x07" + strings.Repeat("p", size))
		p, _, err := Decode(b, 0, 0, none)
		if len(p.Payload) != size || err != api.OK {
			t.Errorf("P5.3: a payload of %d: %d, %d", size, len(p.Payload), err)
		}
		if _, err := Encode(p); err != want {
			t.Errorf("P5.5: Encode with a payload of %d = %d, want %d", size, err, want)
		}
	}
}

// P5.5: a beginning that lacks its end is ErrPacketShort, but of a short packet that has lost bytes of its payload alone.
func TestBeginnings(t *testing.T) {
	for _, c := range table() {
		for n := range len(c.b) {
			if n > 60 && n < len(c.b)-60 {
				continue
			}
			p, end, err := Decode([]byte(c.b[:n]), 0, len(c.p.Dst), whatCame(c.p))
			if c.p.Space == api.App && n >= c.ahead {
				want := c.p
				want.Payload = want.Payload[:n-c.ahead]
				if !same(p, want) || end != n || err != api.OK {
					t.Errorf("P5.5: %d bytes of %.20x..: %d, %d", n, c.b, end, err)
				}
				continue
			}
			if !isZero(p) || end != 0 || err != api.ErrPacketShort {
				t.Errorf("P5.5: %d bytes of %.20x..: %d, %d", n, c.b, end, err)
			}
		}
	}
}
