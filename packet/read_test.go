package packet

import (
	"math"
	"strings"
	"testing"

	"portage/api"
)

const version1 = "\x00\x00\x00\x01"

func TestDecodeReadsRows(t *testing.T) {
	for _, c := range table() {
		p, end, err := Decode([]byte(c.b), 0, len(c.p.Dst), whatCame(c.p))
		if !same(p, c.p) || end != len(c.b) || err != api.OK {
			t.Errorf("P5.3: Decode(%.60x) = %d, %x, %x, %d, %d, %d bytes; %d, %d", c.b, p.Space, p.Dst, p.Src, p.Number, p.Width, len(p.Payload), end, err)
		}
	}
}

// What may be read although it is not written so.
func TestDecodeReadsOtherForms(t *testing.T) {
	eight := strings.Repeat("\x00", 6)
	for _, c := range []struct {
		what    string
		b       string
		idlen   int
		largest [api.Spaces]int64
		p       api.Packet
		end     int
	}{
		{"s and k", "\x67\xaa\x00\x00\x00\x09\x1e", 1, [api.Spaces]int64{-1, -1, 3}, of(api.App, "\xaa", "", 9, 4, "\x1e"), 7},
		{"s", "\x60\x09", 0, none, of(api.App, "", "", 9, 1, ""), 2},
		{"k", "\x44\x09", 0, none, of(api.App, "", "", 9, 1, ""), 2},
		{"a token", "\xc0" + version1 + "\x00\x00\x02\xaa\xbb\x01\x07", 0, none, of(api.Initial, "", "", 7, 1, ""), 12},
		{"a token of 64 bytes", "\xc0" + version1 + "\x00\x00\x40\x40" + strings.Repeat("t", 64) + "\x01\x07", 0, none, of(api.Initial, "", "", 7, 1, ""), 75},
		{"a token's count in two bytes", "\xc0" + version1 + "\x00\x00\x40\x01t\x01\x07", 0, none, of(api.Initial, "", "", 7, 1, ""), 12},
		{"a token's count in four bytes", "\xc0" + version1 + "\x00\x00\x80\x00\x00\x01t\x01\x07", 0, none, of(api.Initial, "", "", 7, 1, ""), 14},
		{"a token's count in eight bytes", "\xc0" + version1 + "\x00\x00\xc0" + eight + "\x01t\x01\x07", 0, none, of(api.Initial, "", "", 7, 1, ""), 18},
		{"no token in eight bytes", "\xc0" + version1 + "\x00\x00\xc0" + eight + "\x00\x01\x07", 0, none, of(api.Initial, "", "", 7, 1, ""), 17},
		{"a length in one byte", "\xe0" + version1 + "\x00\x00\x02\x07p", 0, none, of(api.Handshake, "", "", 7, 1, "p"), 10},
		{"a length in two bytes", "\xe0" + version1 + "\x00\x00\x40\x02\x07p", 0, none, of(api.Handshake, "", "", 7, 1, "p"), 11},
		{"a length in four bytes", "\xe0" + version1 + "\x00\x00\x80\x00\x00\x02\x07p", 0, none, of(api.Handshake, "", "", 7, 1, "p"), 13},
		{"a length in eight bytes", "\xe0" + version1 + "\x00\x00\xc0" + eight + "\x02\x07p", 0, none, of(api.Handshake, "", "", 7, 1, "p"), 17},
		{"a length above 16383", "\xe0" + version1 + "\x00\x00\x80\x00\x40\x00\x07" + strings.Repeat("p", 16383) + "q", 0, none, of(api.Handshake, "", "", 7, 1, strings.Repeat("p", 16383)), 12 + 16383},
		{"more behind a long one", "\xe0" + version1 + "\x00\x00\x02\x07pq", 0, none, of(api.Handshake, "", "", 7, 1, "p"), 10},
		{"idlen is a short one's alone", "\xe0" + version1 + "\x01d\x02st\x01\x07", 20, none, of(api.Handshake, "d", "st", 7, 1, ""), 12},
		{"idlen 0", "\x41\x01\x02abc", 0, none, of(api.App, "", "", 0x0102, 2, "abc"), 6},
		{"idlen 1", "\x41\x01\x02abc", 1, none, of(api.App, "\x01", "", 0x0261, 2, "bc"), 6},
		{"idlen 20", "\x41" + twenty + "\x01\x02", 20, none, of(api.App, twenty, "", 0x0102, 2, ""), 23},
	} {
		p, end, err := Decode([]byte(c.b), 0, c.idlen, c.largest)
		if !same(p, c.p) || end != c.end || err != api.OK {
			t.Errorf("P5.3: %s: Decode(%.60x) = %d, %x, %x, %d, %d, %.60q; %d, %d", c.what, c.b, p.Space, p.Dst, p.Src, p.Number, p.Width, p.Payload, end, err)
		}
	}
}

// Each space's number is found by that space's own largest.
func TestDecodeFindsNumbers(t *testing.T) {
	firsts := [api.Spaces]string{"\xc0" + version1 + "\x00\x00\x00\x01\x05", "\xe0" + version1 + "\x00\x00\x01\x05", "\x40\x05"}
	for _, largest := range [][api.Spaces]int64{
		none, {300, 1000, 100000}, {100000, 300, 1000}, {1000, 100000, -1}, {-1, 260, last}, {last, -1, 260}, {260, last, -1},
	} {
		for space, b := range firsts {
			p, _, err := Decode([]byte(b), 0, 0, largest)
			want := int64(5)
			if largest[space] > 0 {
				next := largest[space] + 1
				want = next - next%256 + 5
				for _, other := range []int64{want - 256, want + 256} {
					if other <= last && abs(other-next) < abs(want-next) {
						want = other
					}
				}
				if want > last {
					want -= 256
				}
			}
			if p.Space != space || p.Number != want || err != api.OK {
				t.Errorf("P5.3: space %d, largest %v: space %d, Number %d, %d, want %d", space, largest, p.Space, p.Number, err, want)
			}
		}
	}
	third := []byte("\x43\xaa\xbb\x00\x00\x00\x01\x01")
	for largest, want := range map[int64]int64{-1: 1, 4294967295: 4294967297} {
		if p, end, err := Decode(third, 0, 2, [api.Spaces]int64{-1, -1, largest}); p.Number != want || end != 8 || err != api.OK {
			t.Errorf("P5.3: with largest %d: %d, %d, %d, want %d", largest, p.Number, end, err, want)
		}
	}
}

func abs(v int64) int64 { return max(v, -v) }

func TestDecodeRefusesArguments(t *testing.T) {
	long := "\xc0" + version1 + "\x00\x00\x00\x01\x05"
	for _, b := range []string{"", "\x00", "\x40\x01", long} {
		for _, at := range []int{-1, math.MinInt, len(b) + 1, math.MaxInt} {
			refuses(t, b, at, 0, none, api.ErrArg)
		}
		for _, idlen := range []int{-1, math.MinInt, 21, math.MaxInt} {
			refuses(t, b, 0, idlen, none, api.ErrArg)
		}
		for space := range api.Spaces {
			for _, n := range []int64{-2, math.MinInt64, last + 1, math.MaxInt64} {
				largest := [api.Spaces]int64{0, 0, 0}
				largest[space] = n
				refuses(t, b, 0, 0, largest, api.ErrArg)
			}
		}
		refuses(t, b, len(b), 0, none, api.ErrPacketShort)
		refuses(t, b, len(b), 20, [api.Spaces]int64{last, last, last}, api.ErrPacketShort)
	}
	for space := range api.Spaces {
		for _, n := range []int64{-1, 0, last} {
			largest := [api.Spaces]int64{0, 0, 0}
			largest[space] = n
			for _, b := range []string{"\x40\x01", long} {
				if _, end, err := Decode([]byte(b), 0, 0, largest); end != len(b) || err != api.OK {
					t.Errorf("P5.3: largest %v: %d, %d", largest, end, err)
				}
			}
		}
	}
}

// refuses asks for an error, and for nothing beside it.
func refuses(t *testing.T, b string, at, idlen int, largest [api.Spaces]int64, want api.Errno) {
	t.Helper()
	if p, end, err := Decode([]byte(b), at, idlen, largest); !isZero(p) || end != 0 || err != want {
		t.Errorf("P5.3: Decode(%.40x, %d, %d, %v) = %+v, %d, %d, want %d", b, at, idlen, largest, p, end, err, want)
	}
}

// The first thing that is wrong is the answer: each row has, behind it, other things that would be wrong.
func TestDecodeTellsTheFirstFault(t *testing.T) {
	const i, h = "\xc0" + version1, "\xe0" + version1
	for _, c := range []struct {
		b     string
		idlen int
		err   api.Errno
	}{
		{"\x00", 0, api.ErrPacketBit}, {"\x00\x00\x00", 0, api.ErrPacketBit}, {"\x3f", 20, api.ErrPacketBit},
		{"\x48\x01", 0, api.ErrPacketBit}, {"\x50\x01", 0, api.ErrPacketBit}, {"\x58\x01", 0, api.ErrPacketBit}, {"\x48", 20, api.ErrPacketBit},
		{"\x80", 0, api.ErrPacketBit}, {"\xa0" + version1, 0, api.ErrPacketBit}, {"\xc4", 0, api.ErrPacketBit}, {"\xc8", 0, api.ErrPacketBit},
		{"\xcc\x00\x00\x00\x02", 0, api.ErrPacketBit}, {"\xf8\x00\x00\x00\x02", 0, api.ErrPacketBit}, {"\x90\x00\x00\x00\x02", 0, api.ErrPacketBit},
		{"\xc0", 0, api.ErrPacketShort}, {"\xc0\x00\x00\x00", 0, api.ErrPacketShort}, {"\xf0\x07\x07\x07", 0, api.ErrPacketShort},
		{"\xc0\x00\x00\x00\x02", 0, api.ErrPacketVersion}, {"\xc0\x00\x00\x00\x00", 0, api.ErrPacketVersion},
		{"\xc0\x01\x00\x00\x01", 0, api.ErrPacketVersion}, {"\xc0\x00\x01\x00\x01", 0, api.ErrPacketVersion}, {"\xc0\x00\x00\x01\x01", 0, api.ErrPacketVersion},
		{"\xd0\x00\x00\x00\x02", 0, api.ErrPacketVersion}, {"\xf0\xff\xff\xff\xff\x15", 0, api.ErrPacketVersion},
		{"\xd0" + version1, 0, api.ErrPacketKind}, {"\xf0" + version1, 0, api.ErrPacketKind}, {"\xd3" + version1 + "\x15", 0, api.ErrPacketKind}, {"\xf3" + version1 + "\x15", 0, api.ErrPacketKind},
		{i, 0, api.ErrPacketShort}, {h, 0, api.ErrPacketShort},
		{i + "\x15", 0, api.ErrPacketField}, {h + "\x15", 0, api.ErrPacketField}, {i + "\xff", 0, api.ErrPacketField}, {i + "\x15" + many, 0, api.ErrPacketField},
		{i + "\x14" + twenty[1:], 0, api.ErrPacketShort}, {i + "\x14" + twenty, 0, api.ErrPacketShort}, {i + "\x02\x15", 0, api.ErrPacketShort},
		{i + "\x00\x15", 0, api.ErrPacketField}, {h + "\x14" + twenty + "\x15", 0, api.ErrPacketField}, {h + "\x00\xff", 0, api.ErrPacketField},
		{h + "\x00\x14" + twenty[1:], 0, api.ErrPacketShort}, {h + "\x00\x14" + twenty, 0, api.ErrPacketShort}, {h + "\x00\x00", 0, api.ErrPacketShort},
		{i + "\x00\x00", 0, api.ErrPacketShort}, {i + "\x00\x00\x40", 0, api.ErrPacketShort}, {i + "\x00\x00\x02a", 0, api.ErrPacketShort}, {i + "\x00\x00\x02\x00\x00", 0, api.ErrPacketShort},
		{i + "\x00\x00\x05\x02\x07", 0, api.ErrPacketShort}, {i + "\x00\x00\xff\xff\xff\xff\xff\xff\xff\xff\x00", 0, api.ErrPacketShort},
		{i + "\x00\x00\x00", 0, api.ErrPacketShort}, {h + "\x00\x00\x40", 0, api.ErrPacketShort}, {h + "\x00\x00\x80\x00\x00", 0, api.ErrPacketShort}, {h + "\x00\x00\xc0\x00\x00\x00\x00\x00\x00", 0, api.ErrPacketShort},
		{i + "\x00\x00\x00\x00", 0, api.ErrPacketField}, {h + "\x00\x00\x00", 0, api.ErrPacketField}, {h + "\x00\x00\x40\x00\x07", 0, api.ErrPacketField},
		{"\xc1" + version1 + "\x00\x00\x00\x01\x07", 0, api.ErrPacketField}, {"\xc1" + version1 + "\x00\x00\x00\x01", 0, api.ErrPacketField},
		{"\xe2" + version1 + "\x00\x00\x02\x07\x07\x07", 0, api.ErrPacketField}, {"\xe3" + version1 + "\x00\x00\x03", 0, api.ErrPacketField},
		{i + "\x00\x00\x00\x01", 0, api.ErrPacketShort}, {i + "\x00\x00\x00\x02\x07", 0, api.ErrPacketShort}, {h + "\x00\x00\x40\x02\x07", 0, api.ErrPacketShort},
		{"\xe3" + version1 + "\x00\x00\x04\x01\x02\x03", 0, api.ErrPacketShort}, {"\xe3" + version1 + "\x00\x00\x05\x01\x02\x03\x04", 0, api.ErrPacketShort},
		{h + "\x00\x00\xff\xff\xff\xff\xff\xff\xff\xff\x07\x07", 0, api.ErrPacketShort}, {h + "\x00\x00\xbf\xff\xff\xff\x07", 0, api.ErrPacketShort},
		{"", 0, api.ErrPacketShort}, {"\x40", 0, api.ErrPacketShort}, {"\x40\x01", 1, api.ErrPacketShort}, {"\x40\x01", 2, api.ErrPacketShort}, {"\x43\x01\x02\x03", 0, api.ErrPacketShort},
		{"\x43\x01\x02\x03\x04", 1, api.ErrPacketShort}, {"\x40" + twenty[1:], 20, api.ErrPacketShort}, {"\x40" + twenty, 20, api.ErrPacketShort},
	} {
		for _, ahead := range []string{"", "\xc0", "\x40\x01\x02", strings.Repeat("\xff", 50)} {
			refuses(t, ahead+c.b, len(ahead), c.idlen, none, c.err)
		}
	}
}

// Every first byte: which bits may be how.
func TestDecodeLooksAtEveryFirstByte(t *testing.T) {
	tail := version1 + "\x00\x00\x00\x04\x01\x02\x03\x04"
	for first := range 256 {
		b := string([]byte{byte(first)}) + tail
		want := api.OK
		switch {
		case first&0x40 == 0, first&0x80 != 0 && first&0x0c != 0, first&0x80 == 0 && first&0x18 != 0:
			want = api.ErrPacketBit
		case first&0x80 == 0:
		case first&0x10 != 0:
			want = api.ErrPacketKind
		case first&0x20 != 0: // a Handshake has no token: this is a length of 0
			want = api.ErrPacketField
		}
		p, _, err := Decode([]byte(b), 0, 0, none)
		if err != want || err == api.OK && p.Width != first%4+1 || err != api.OK && !isZero(p) {
			t.Errorf("P5.3: first byte %x: %+v, %d, want %d", first, p, err, want)
		}
	}
}
