package packet

import (
	"bytes"
	"testing"

	"portage/api"
)

// spoil writes over a list, its spare room too.
func spoil(b []byte) {
	b = b[:cap(b)]
	for i := range b {
		b[i] ^= 0xff
	}
}

// roomy makes a list of these bytes with spare room behind it.
func roomy(s string) []byte {
	return append(make([]byte, 0, len(s)+24), s...)
}

func whole(b []byte) string { return string(b[:cap(b)]) }

func TestEncodeKeepsAndChangesNothing(t *testing.T) {
	for space := range api.Spaces {
		src := "source"
		if space == api.App {
			src = ""
		}
		p := api.Packet{Space: space, Dst: roomy("here"), Src: roomy(src), Number: 77, Width: 2, Payload: roomy("payload")}
		before := whole(p.Dst) + whole(p.Src) + whole(p.Payload)
		b, err := Encode(p)
		n, _ := Overhead(p)
		if err != api.OK || n == 0 || before != whole(p.Dst)+whole(p.Src)+whole(p.Payload) {
			t.Errorf("R3: Encode of space %d changed what it was given, or answered %d", space, err)
		}
		text := string(b)
		spoil(p.Dst)
		spoil(p.Src)
		spoil(p.Payload)
		if string(b) != text {
			t.Errorf("R3: Encode of space %d keeps what it was given", space)
		}
		after := whole(p.Dst) + whole(p.Src) + whole(p.Payload)
		spoil(b)
		if after != whole(p.Dst)+whole(p.Src)+whole(p.Payload) {
			t.Errorf("R3: what Encode of space %d tells is shared", space)
		}
	}
}

func TestDecodeKeepsAndChangesNothing(t *testing.T) {
	for _, c := range table() {
		b := roomy(c.b)
		before := whole(b)
		p, _, err := Decode(b, 0, len(c.p.Dst), whatCame(c.p))
		if err != api.OK || whole(b) != before {
			t.Fatalf("R3: Decode changed what it was given, or answered %d", err)
		}
		spoil(b)
		if !same(p, c.p) {
			t.Errorf("R3: Decode of %.20x.. keeps what it was given", c.b)
		}
		after := whole(b)
		for i, l := range [][]byte{p.Dst, p.Src, p.Payload} {
			spoil(l)
			rest := [][]byte{c.p.Dst, c.p.Src, c.p.Payload}
			for j, other := range [][]byte{p.Dst, p.Src, p.Payload} {
				if j > i && !bytes.Equal(other, rest[j]) {
					t.Errorf("R3: two lists of what Decode of %.20x.. tells share memory", c.b)
				}
			}
		}
		if whole(b) != after {
			t.Errorf("R3: what Decode of %.20x.. tells is shared", c.b)
		}
	}
}

func TestSplitKeepsAndChangesNothing(t *testing.T) {
	rows := table()
	b := roomy(rows[0].b + rows[0].b + rows[1].b + "\x40\x0a\x0bxyz")
	want, _ := Split(bytes.Clone(b), 1, none)
	before := whole(b)
	l, at := Split(b, 1, none)
	if len(l) != 4 || at != len(b) || whole(b) != before {
		t.Fatalf("R3: Split changed what it was given, or read %d packets", len(l))
	}
	spoil(b)
	if !sameList(l, want) {
		t.Error("R3: Split keeps what it was given")
	}
	after := whole(b)
	for i, p := range l {
		spoil(p.Dst)
		spoil(p.Src)
		spoil(p.Payload)
		if !sameList(l[i+1:], want[i+1:]) {
			t.Error("R3: two packets that Split tells share memory")
		}
	}
	if whole(b) != after {
		t.Error("R3: what Split tells is shared")
	}
	spare := l[:cap(l)]
	for i := len(l); i < len(spare); i++ {
		spare[i] = api.Packet{Space: 7}
	}
	if again, _ := Split(bytes.Clone([]byte(before[:at])), 1, none); !sameList(again, want) {
		t.Error("R4: Split answers otherwise the second time")
	}
}
