package pack

import (
	"bytes"
	"slices"
	"strings"
	"testing"

	"portage/api"
)

const (
	version = "\x00\x00\x00\x01"
	twenty  = "abcdefghijklmnopqrst" // an id of 20 bytes
	many    = twenty + "u"
	last    = api.MaxNumber
)

var none = [api.Spaces]int64{-1, -1, -1}

// of makes a packet.
func of(space int, dst, src string, number int64, width int, payload string) api.Packet {
	return api.Packet{Space: space, Dst: []byte(dst), Src: []byte(src), Number: number, Width: width, Payload: []byte(payload)}
}

// The packets of which most tests are made: I and A are those of the chapter's examples, H stands between them.
func packetI() api.Packet { return of(api.Initial, "\x01\x02", "\x03", 5, 1, "\x01") }
func packetH() api.Packet { return of(api.Handshake, "\x0d", "\x0e\x0f", 258, 2, "\x01\x01") }
func packetA() api.Packet { return of(api.App, "\xaa\xbb", "", 7, 1, "\x01") }

// What they are written as: 15, 16 and 5 bytes.
const (
	bytesI = "\xc0" + version + "\x02\x01\x02\x01\x03\x00\x40\x02\x05\x01"
	bytesH = "\xe1" + version + "\x01\x0d\x02\x0e\x0f\x40\x04\x01\x02\x01\x01"
	bytesA = "\x40\xaa\xbb\x07\x01"
)

func noughts(n int) string { return strings.Repeat("\x00", n) }

// with is a packet with another payload.
func with(p api.Packet, payload string) api.Packet {
	p.Payload = []byte(payload)
	return p
}

// wide is a packet with another Width.
func wide(p api.Packet, width int) api.Packet {
	p.Width = width
	return p
}

// in is a packet in another space.
func in(p api.Packet, space int) api.Packet {
	p.Space = space
	return p
}

// same holds two packets against each other; a nil list and an empty one are the same.
func same(a, b api.Packet) bool {
	return a.Space == b.Space && bytes.Equal(a.Dst, b.Dst) && bytes.Equal(a.Src, b.Src) && a.Number == b.Number &&
		a.Width == b.Width && bytes.Equal(a.Payload, b.Payload)
}

// builds holds Build to a datagram and its sizes.
func builds(t *testing.T, what string, room, least int, l []api.Packet, want string, sizes ...int) {
	t.Helper()
	b, got, err := Build(room, least, l...)
	if string(b) != want || !slices.Equal(got, sizes) || err != api.OK {
		t.Errorf("%s: Build(%d, %d, %d packets) = %d bytes %.60x, %v, %d, want %d bytes %.60x, %v", what, room, least, len(l), len(b), b, got, err, len(want), want, sizes)
	}
}

// refuses holds Build to an error, beside which all is zero.
func refuses(t *testing.T, what string, room, least int, l []api.Packet, want api.Errno) {
	t.Helper()
	b, sizes, err := Build(room, least, l...)
	if len(b) != 0 || len(sizes) != 0 || err != want {
		t.Errorf("%s: Build(%d, %d, %d packets) = %d bytes, %v, %d, want %d", what, room, least, len(l), len(b), sizes, err, want)
	}
}
