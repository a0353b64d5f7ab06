package params

import (
	"bytes"
	"strings"
	"testing"

	"portage/api"
)

// spoil writes over a list, its spare room too.
func spoil(b []byte) {
	b = b[:cap(b)]
	for i := range b {
		b[i] ^= 0xff
	}
}

func TestDecodeChangesNothing(t *testing.T) {
	for _, c := range rows() {
		for _, behind := range []string{"", "\x02\x03abc", "\x02\x00\x02", "\x0d", "\x0d\x05ab"} {
			b := append(make([]byte, 0, len(c.b)+40), c.b+behind...)
			before := string(b[:cap(b)])
			Decode(b)
			if string(b[:cap(b)]) != before {
				t.Errorf("R3: Decode(%x) changed what it was given", b)
			}
		}
	}
}

func TestEncodeGivesNewMemory(t *testing.T) {
	for _, c := range rows() {
		first, _ := Encode(c.p)
		second, _ := Encode(c.p)
		spoil(first)
		if string(second) != c.b {
			t.Errorf("R3: two answers of Encode(%+v) share memory", c.p)
		}
		if third, err := Encode(c.p); string(third) != c.b || err != api.OK {
			t.Errorf("R3, R4: Encode(%+v) answers %x the third time, want %x", c.p, third, c.b)
		}
	}
	if Default() != usual {
		t.Error("R4: Default answers otherwise behind other calls")
	}
}

// Nothing is kept between calls: a number that one call read isn't one that stood ahead in the next.
func TestCallsKnowNothingOfOneAnother(t *testing.T) {
	b := []byte("\x02\x00\x04\x02\x43\xe8\x0a\x01\x00")
	want, _ := Decode(bytes.Clone(b))
	for _, between := range []string{"", "\x04\x01\x05", "\x02\x00\x02", "\x08\x01\x21", "\x0a\x01", strings.Repeat("\x02", 50)} {
		Decode([]byte(between))
		if p, err := Decode(b); p != want || err != api.OK {
			t.Errorf("R4: behind Decode(%x) Decode(%x) = %+v, %d, want %+v", between, b, p, err, want)
		}
	}
}
