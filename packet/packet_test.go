package packet

import (
	"bytes"
	"math"
	"strings"
	"testing"

	"portage/api"
)

const last = api.MaxNumber

var none = [api.Spaces]int64{-1, -1, -1}

// twenty and many are ids of 20 and of 21 bytes.
const (
	twenty = "abcdefghijklmnopqrst"
	many   = "abcdefghijklmnopqrstu"
)

// same holds two packets against each other; a nil list and an empty one are the same.
func same(a, b api.Packet) bool {
	return a.Space == b.Space && bytes.Equal(a.Dst, b.Dst) && bytes.Equal(a.Src, b.Src) && a.Number == b.Number &&
		a.Width == b.Width && bytes.Equal(a.Payload, b.Payload)
}

func isZero(p api.Packet) bool {
	return same(p, api.Packet{})
}

// A row is a packet, what it is written as, and how many bytes stand ahead of its payload.
type row struct {
	p     api.Packet
	b     string
	ahead int
}

// of makes a packet.
func of(space int, dst, src string, number int64, width int, payload string) api.Packet {
	return api.Packet{Space: space, Dst: []byte(dst), Src: []byte(src), Number: number, Width: width, Payload: []byte(payload)}
}

// table has the chapter's examples, every space with every width, and the edges of the fields.
func table() []row {
	const v = "\x00\x00\x00\x01"
	return []row{
		{of(api.Initial, "\x01\x02", "\x03", 5, 1, "\x01"), "\xc0" + v + "\x02\x01\x02\x01\x03\x00\x40\x02\x05\x01", 14},
		{of(api.Handshake, "\xaa", "", 258, 2, ""), "\xe1" + v + "\x01\xaa\x00\x40\x02\x01\x02", 12},
		{of(api.App, "\xaa\xbb", "", 4294967297, 4, "\x01"), "\x43\xaa\xbb\x00\x00\x00\x01\x01", 7},

		{of(api.Initial, "", "", 0, 1, ""), "\xc0" + v + "\x00\x00\x00\x40\x01\x00", 11},
		{of(api.Initial, "", "", 0x0102, 2, "xy"), "\xc1" + v + "\x00\x00\x00\x40\x04\x01\x02xy", 12},
		{of(api.Initial, "", "", 0x010203, 3, "xy"), "\xc2" + v + "\x00\x00\x00\x40\x05\x01\x02\x03xy", 13},
		{of(api.Initial, "", "", 0x01020304, 4, "xy"), "\xc3" + v + "\x00\x00\x00\x40\x06\x01\x02\x03\x04xy", 14},
		{of(api.Handshake, "", "", 0, 1, ""), "\xe0" + v + "\x00\x00\x40\x01\x00", 10},
		{of(api.Handshake, "", "", 0x0102, 2, "xy"), "\xe1" + v + "\x00\x00\x40\x04\x01\x02xy", 11},
		{of(api.Handshake, "", "", 0x010203, 3, "xy"), "\xe2" + v + "\x00\x00\x40\x05\x01\x02\x03xy", 12},
		{of(api.Handshake, "", "", 0x01020304, 4, "xy"), "\xe3" + v + "\x00\x00\x40\x06\x01\x02\x03\x04xy", 13},
		{of(api.App, "", "", 0, 1, ""), "\x40\x00", 2},
		{of(api.App, "", "", 0x0102, 2, "xy"), "\x41\x01\x02xy", 3},
		{of(api.App, "", "", 0x010203, 3, "xy"), "\x42\x01\x02\x03xy", 4},
		{of(api.App, "", "", 0x01020304, 4, "xy"), "\x43\x01\x02\x03\x04xy", 5},

		{of(api.Initial, twenty, twenty, last, 4, "p"), "\xc3" + v + "\x14" + twenty + "\x14" + twenty + "\x00\x40\x05\xff\xff\xff\xffp", 54},
		{of(api.Handshake, twenty, twenty, last, 3, "p"), "\xe2" + v + "\x14" + twenty + "\x14" + twenty + "\x40\x04\xff\xff\xffp", 52},
		{of(api.App, twenty, "", last, 1, "p"), "\x40" + twenty + "\xffp", 22},
		{of(api.Initial, "", twenty, 7, 1, ""), "\xc0" + v + "\x00\x14" + twenty + "\x00\x40\x01\x07", 31},
		{of(api.Handshake, twenty, "", 7, 1, ""), "\xe0" + v + "\x14" + twenty + "\x00\x40\x01\x07", 30},

		{of(api.Handshake, "", "", 1, 1, strings.Repeat("p", 62)), "\xe0" + v + "\x00\x00\x40\x3f\x01" + strings.Repeat("p", 62), 10},
		{of(api.Handshake, "", "", 1, 1, strings.Repeat("p", 63)), "\xe0" + v + "\x00\x00\x40\x40\x01" + strings.Repeat("p", 63), 10},
		{of(api.Initial, "", "", 1, 1, strings.Repeat("p", 16382)), "\xc0" + v + "\x00\x00\x00\x7f\xff\x01" + strings.Repeat("p", 16382), 11},
		{of(api.Handshake, "", "", 1, 4, strings.Repeat("p", 16379)), "\xe3" + v + "\x00\x00\x7f\xff\x00\x00\x00\x01" + strings.Repeat("p", 16379), 13},
		{of(api.App, "", "", 1, 2, strings.Repeat("p", 16382)), "\x41\x00\x01" + strings.Repeat("p", 16382), 3},
		{of(api.App, "", "", 1, 1, strings.Repeat("p", 70000)), "\x40\x01" + strings.Repeat("p", 70000), 2},
	}
}

// whatCame is a largest from which a packet's number is found again.
func whatCame(p api.Packet) [api.Spaces]int64 {
	l := none
	l[p.Space] = p.Number - 1
	return l
}

func TestEncodeWritesRows(t *testing.T) {
	for _, c := range table() {
		b, err := Encode(c.p)
		if string(b) != c.b || err != api.OK {
			t.Errorf("P5.1: Encode(%d, %x, %x, %d, %d, %d bytes) = %.60x, %d, want %.60x", c.p.Space, c.p.Dst, c.p.Src, c.p.Number, c.p.Width, len(c.p.Payload), b, err, c.b)
		}
	}
}

func TestOverheadOfRows(t *testing.T) {
	for _, c := range table() {
		n, err := Overhead(c.p)
		if n != c.ahead || n != len(c.b)-len(c.p.Payload) || err != api.OK {
			t.Errorf("P5.2: Overhead(%d, %x, %x, %d, %d) = %d, %d, want %d", c.p.Space, c.p.Dst, c.p.Src, c.p.Number, c.p.Width, n, err, c.ahead)
		}
	}
}

// A refusal is a packet that isn't written. Some of them Overhead tells nothing of: it doesn't look at Number and Payload.
type refusal struct {
	what     string
	p        api.Packet
	err      api.Errno
	overhead api.Errno
}

func refusals() []refusal {
	l := []refusal{
		{"space -1", of(-1, "", "", 0, 1, ""), api.ErrPacketKind, api.ErrPacketKind},
		{"space 3", of(3, "", "", 0, 1, ""), api.ErrPacketKind, api.ErrPacketKind},
		{"the least space", of(math.MinInt, "", "", 0, 1, ""), api.ErrPacketKind, api.ErrPacketKind},
		{"the greatest space", of(math.MaxInt, "", "", 0, 1, ""), api.ErrPacketKind, api.ErrPacketKind},
		{"no such space ahead of fields", of(3, many, many, -1, 5, strings.Repeat("p", 20000)), api.ErrPacketKind, api.ErrPacketKind},
		{"no such space ahead of width", of(-1, "", "", 0, 0, ""), api.ErrPacketKind, api.ErrPacketKind},
		{"Src in App", of(api.App, "", "s", 0, 1, ""), api.ErrPacketField, api.ErrPacketField},
		{"Src of 20 in App", of(api.App, "", twenty, 0, 1, ""), api.ErrPacketField, api.ErrPacketField},
	}
	for space := range api.Spaces {
		l = append(l,
			refusal{"Dst of 21", of(space, many, "", 0, 1, ""), api.ErrPacketField, api.ErrPacketField},
			refusal{"Dst of 300", of(space, strings.Repeat("d", 300), "", 0, 1, ""), api.ErrPacketField, api.ErrPacketField},
			refusal{"Src of 21", of(space, "", many, 0, 1, ""), api.ErrPacketField, api.ErrPacketField},
			refusal{"Src of 256", of(space, "", strings.Repeat("s", 256), 0, 1, ""), api.ErrPacketField, api.ErrPacketField},
			refusal{"Width 0", of(space, "", "", 0, 0, ""), api.ErrPacketField, api.ErrPacketField},
			refusal{"Width 5", of(space, "", "", 0, 5, ""), api.ErrPacketField, api.ErrPacketField},
			refusal{"Width -1", of(space, "", "", 0, -1, ""), api.ErrPacketField, api.ErrPacketField},
			refusal{"the least Width", of(space, "", "", 0, math.MinInt, ""), api.ErrPacketField, api.ErrPacketField},
			refusal{"the greatest Width", of(space, "", "", 0, math.MaxInt, "p"), api.ErrPacketField, api.ErrPacketField},
			refusal{"Number -1", of(space, "", "", -1, 1, ""), api.ErrPacketField, api.OK},
			refusal{"the least Number", of(space, "", "", math.MinInt64, 1, ""), api.ErrPacketField, api.OK},
			refusal{"Number 2^62", of(space, "", "", last+1, 4, ""), api.ErrPacketField, api.OK},
			refusal{"the greatest Number", of(space, "", "", math.MaxInt64, 4, ""), api.ErrPacketField, api.OK},
		)
	}
	for width := 1; width <= 4; width++ {
		payload := strings.Repeat("p", 16384-width)
		l = append(l,
			refusal{"Initial, 16384", of(api.Initial, "", "", 0, width, payload), api.ErrPacketField, api.OK},
			refusal{"Handshake, 16384", of(api.Handshake, "", "", 0, width, payload), api.ErrPacketField, api.OK},
		)
	}
	return append(l, refusal{"Initial, 70001", of(api.Initial, "", "", 0, 1, strings.Repeat("p", 70000)), api.ErrPacketField, api.OK})
}

func TestEncodeRefuses(t *testing.T) {
	for _, c := range refusals() {
		if b, err := Encode(c.p); len(b) != 0 || err != c.err {
			t.Errorf("P5.1: %s, space %d, width %d: %d bytes, %d, want %d", c.what, c.p.Space, c.p.Width, len(b), err, c.err)
		}
	}
}

func TestOverheadRefuses(t *testing.T) {
	for _, c := range refusals() {
		n, err := Overhead(c.p)
		if err != c.overhead || (err == api.OK) != (n != 0) {
			t.Errorf("P5.2: %s, space %d, width %d: %d, %d, want %d", c.what, c.p.Space, c.p.Width, n, err, c.overhead)
		}
	}
	for space, want := range [api.Spaces]int{14, 13, 5} {
		for _, number := range []int64{math.MinInt64, -1, 0, last, last + 1, math.MaxInt64} {
			for _, size := range []int{0, 1, 16379, 16380, 20000} {
				n, err := Overhead(of(space, "", "", number, 4, strings.Repeat("p", size)))
				if n != want || err != api.OK {
					t.Errorf("P5.2: Overhead(%d, Number %d, %d bytes) = %d, %d, want %d", space, number, size, n, err, want)
				}
			}
		}
	}
}

// Up to 16383 a long packet may have, whatever its width; a short one more.
func TestEncodeUpToTheGreatestLength(t *testing.T) {
	for width := 1; width <= 4; width++ {
		for _, space := range []int{api.Initial, api.Handshake} {
			p := of(space, "d", "s", 1, width, strings.Repeat("p", 16383-width))
			n, _ := Overhead(p)
			b, err := Encode(p)
			if err != api.OK || len(b) != n+len(p.Payload) || string(b[n-width-2:n-width]) != "\x7f\xff" {
				t.Errorf("P5.1: space %d, width %d, with 16383: %d bytes, %d", space, width, len(b), err)
			}
		}
		p := of(api.App, "d", "", 1, width, strings.Repeat("p", 16384-width))
		if b, err := Encode(p); err != api.OK || len(b) != 2+16384 {
			t.Errorf("P5.1: App, width %d, with 16384: %d bytes, %d", width, len(b), err)
		}
	}
}
