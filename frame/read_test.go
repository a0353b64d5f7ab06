package frame

import (
	"math"
	"slices"
	"strings"
	"testing"

	"portage/api"
	"portage/num"
)

func checkRead(t *testing.T, b string, at int, want api.Frame, place int) {
	t.Helper()
	f, end, err := Decode([]byte(b), at)
	if !same(f, want) || end != place || err != api.OK {
		t.Errorf("P4.3: Decode(%.40x, %d) = %+v, %d, %d, want %+v, %d", b, at, f, end, err, want, place)
	}
}

func checkRefused(t *testing.T, b string, at int, want api.Errno) {
	t.Helper()
	f, end, err := Decode([]byte(b), at)
	if !same(f, api.Frame{}) || end != 0 || err != want {
		t.Errorf("P4.3: Decode(%.40x, %d) = %+v, %d, %d, want the zero frame, 0, %d", b, at, f, end, err, want)
	}
}

func TestExamplesOfDecode(t *testing.T) {
	checkRefused(t, "\x40\x01", 0, api.ErrFrameKind)
	checkRefused(t, "\x07", 0, api.ErrFrameKind)
	checkRefused(t, "\x18", 0, api.ErrFrameKind)
	checkRefused(t, "\x1f", 0, api.ErrFrameKind)
	checkRefused(t, "\x02\x05\x00\x00\x06", 0, api.ErrFrameField)
	checkRefused(t, "\x02\x05\x00\x01\x00\x04\x00", 0, api.ErrFrameField)
	checkRead(t, "\x02\x05\x00\x01\x00\x03\x00", 0, api.Frame{Kind: api.KAck, Runs: runsOf(5, 5, 0, 0)}, 7)
	checkRead(t, "\x0e\x04\x00\x02hi", 0, api.Frame{Kind: api.KStream, Stream: 4, Data: []byte("hi")}, 6)
	checkRefused(t, "\x06\x00\x04a", 0, api.ErrFrameShort)
	checkRefused(t, "\x12\xd0\x00\x00\x00\x00\x00\x00\x01", 0, api.ErrFrameField)
	f, _, _ := Decode([]byte("\x0e\x04\x00\x02hi"), 0)
	if b, err := Encode(f); string(b) != "\x0a\x04\x02hi" || err != api.OK {
		t.Errorf("P4.1: an Offset of 0 that was told is written as %x, %d", b, err)
	}
	checkFault(t, api.Frame{Kind: api.KPing, Limit: 1}, api.ErrFrameField)
	checkFault(t, api.Frame{Kind: 3}, api.ErrFrameKind)
}

func TestPlaces(t *testing.T) {
	for _, b := range []string{"", "\x01", "\x01\x01\x01", "\x40"} {
		for _, at := range []int{math.MinInt, -1 << 32, -2, -1, len(b) + 1, len(b) + 2, 1 << 32, math.MaxInt} {
			checkRefused(t, b, at, api.ErrArg)
		}
		checkRefused(t, b, len(b), api.ErrFrameShort)
	}
	checkRefused(t, "\x01\x41", 1, api.ErrFrameShort)
	checkRead(t, "\x07\x07\x1e\x07", 2, api.Frame{Kind: api.KDone}, 3)
	if f, end, err := Decode(nil, 0); !same(f, api.Frame{}) || end != 0 || err != api.ErrFrameShort {
		t.Errorf("P4.3: Decode(nil, 0) = %+v, %d, %d", f, end, err)
	}
}

// TestTypes reads every type of one byte, and each type in more bytes than it needs.
func TestTypes(t *testing.T) {
	with := map[int]bool{0x03: true, 0x13: true, 0x17: true, 0x1d: true}
	for v := range 64 {
		known := slices.Contains(kinds, v) || with[v] || v >= 0x08 && v <= 0x0f
		// Bytes that are good for every kind's parts.
		_, _, err := Decode([]byte(string(rune(v))+strings.Repeat("\x00", 20)), 0)
		if want := api.Errno(oneIf(!known)) * api.ErrFrameKind; err != want {
			t.Errorf("P4.3: the type %02x: %d, want %d", v, err, want)
		}
		for _, size := range []int{2, 4, 8} {
			b, _ := num.PutAs(uint64(v), size)
			checkRefused(t, string(b)+strings.Repeat("\x00", 20), 0, api.ErrFrameKind)
			checkRefused(t, string(b), 0, api.ErrFrameKind)
			for n := range b {
				checkRefused(t, string(b[:n]), 0, api.ErrFrameShort)
			}
		}
	}
	for _, v := range []uint64{64, 65, 256, 257, 16383, 16384, 1<<30 - 1, 1 << 30, 1 << 32, 1<<32 + 1, last} {
		b, _ := num.Put(v)
		checkRefused(t, string(b)+strings.Repeat("\x00", 20), 0, api.ErrFrameKind)
		checkRefused(t, string(b), 0, api.ErrFrameKind)
		checkRefused(t, string(b[:len(b)-1]), 0, api.ErrFrameShort)
	}
}

// spread writes a frame with each number but its type in so many bytes; numbers that need more are left as they are.
func spread(t *testing.T, f api.Frame, size int) []byte {
	t.Helper()
	l, rest, err := tell(f)
	if err != api.OK {
		t.Fatalf("P4.1: %+v: %d", f, err)
	}
	b := []byte{byte(l[0])}
	for _, v := range l[1:] {
		p, err := num.PutAs(uint64(v), size)
		if err != api.OK {
			p, _ = num.Put(uint64(v))
		}
		b = append(b, p...)
	}
	return append(b, rest...)
}

func TestEveryWidth(t *testing.T) {
	for _, c := range table() {
		for _, size := range []int{1, 2, 4, 8} {
			b := spread(t, c.f, size)
			checkRead(t, string(b), 0, c.f, len(b))
			checkRead(t, "\xff\xff"+string(b), 2, c.f, 2+len(b))
		}
	}
}

// TestPadding: all bytes 00 in a row, from the place on, but 65535 at most.
func TestPadding(t *testing.T) {
	for _, n := range []int{1, 2, 3, 64, 65534, 65535} {
		zeros := strings.Repeat("\x00", n)
		want := api.Frame{Kind: api.KPadding, Size: int64(n)}
		checkRead(t, zeros, 0, want, n)
		checkRead(t, zeros+"\x01\x00", 0, want, n)
		checkRead(t, "\x00\x00\x01"+zeros+"\x40", 3, want, 3+n)
		checkRead(t, "\x00\x00"+zeros+"\x01", 2, want, 2+n)
	}
	zeros := strings.Repeat("\x00", 65536)
	checkRead(t, zeros, 0, api.Frame{Kind: api.KPadding, Size: 65535}, 65535)
	checkRead(t, zeros, 1, api.Frame{Kind: api.KPadding, Size: 65535}, 65536)
	checkRead(t, zeros, 65535, api.Frame{Kind: api.KPadding, Size: 1}, 65536)
	checkRead(t, zeros+zeros, 7, api.Frame{Kind: api.KPadding, Size: 65535}, 65542)
}

func TestRunsRead(t *testing.T) {
	ack := func(l ...int64) api.Frame { return api.Frame{Kind: api.KAck, Runs: runsOf(l...)} }
	checkRead(t, "\x02\x05\x00\x00\x05", 0, ack(0, 5), 5)
	checkRead(t, "\x02\x00\x00\x00\x00", 0, ack(0, 0), 5)
	checkRead(t, "\x02\x05\x00\x01\x00\x00\x03", 0, ack(5, 5, 0, 3), 7)
	checkRead(t, "\x02\x05\x00\x01\x01\x02\x00", 0, ack(4, 5, 0, 0), 7)
	checkRead(t, "\x02\x09\x00\x02\x01\x01\x01\x00\x01\x07", 0, ack(8, 9, 4, 5, 1, 2), 9)
	// A length that leads below 0, at the first run and at further ones, with what stands behind it or without.
	for _, behind := range []string{"", "\x00", "\x00\x00\x00\x00\x00"} {
		checkRefused(t, "\x02\x00\x00\x00\x01"+behind, 0, api.ErrFrameField)
		checkRefused(t, "\x02\x05\x00\x00\x06"+behind, 0, api.ErrFrameField)
		checkRefused(t, "\x02\x05\x00\x01\x06"+behind, 0, api.ErrFrameField)
		checkRefused(t, "\x02"+"\xff\xff\xff\xff\xff\xff\xff\xfe"+"\x00\x00"+lastBytes+behind, 0, api.ErrFrameField)
		checkRefused(t, "\x02\x05\x00\x01\x00\x00\x04"+behind, 0, api.ErrFrameField)
		checkRefused(t, "\x02\x05\x00\x01\x00\x00"+lastBytes+behind, 0, api.ErrFrameField)
		checkRefused(t, "\x03\x05\x00\x00\x06"+behind, 0, api.ErrFrameField)
		// A gap that leads below 0: nothing of the run behind it needs to stand there.
		checkRefused(t, "\x02\x05\x00\x01\x00\x04"+behind, 0, api.ErrFrameField)
		checkRefused(t, "\x02\x05\x00\x01\x00\x05"+behind, 0, api.ErrFrameField)
		checkRefused(t, "\x02\x05\x00\x01\x00"+lastBytes+behind, 0, api.ErrFrameField)
		checkRefused(t, "\x02\x05\x00\x01\x05\x00"+behind, 0, api.ErrFrameField)
		checkRefused(t, "\x02\x05\x00\x01\x04\x00"+behind, 0, api.ErrFrameField)
		checkRefused(t, "\x02\x05\x00\x02\x00\x00\x02\x00"+behind, 0, api.ErrFrameField)
		checkRefused(t, "\x02\x05\x00\x02\x00\x00\x03\x00"+behind, 0, api.ErrFrameField)
	}
	// More runs than bytes can be: the bytes end.
	checkRefused(t, "\x02\x05\x00\x01\x00", 0, api.ErrFrameShort)
	checkRefused(t, "\x02\x05\x00"+lastBytes+"\x00", 0, api.ErrFrameShort)
	checkRefused(t, "\x02"+lastBytes+"\x00"+lastBytes+"\x00\x00\x00", 0, api.ErrFrameShort)
	checkRefused(t, "\x02\x00\x00\x01\x00", 0, api.ErrFrameShort)
	checkRefused(t, "\x03\x05\x00\x00\x00\x01\x02", 0, api.ErrFrameShort)
}

func TestLimitsRead(t *testing.T) {
	for _, kind := range []string{"\x12", "\x13", "\x16", "\x17"} {
		f, _, err := Decode([]byte(kind+"\xd0\x00\x00\x00\x00\x00\x00\x00"), 0)
		if f.Limit != 1<<60 || err != api.OK {
			t.Errorf("P4.3: a limit of 2^60 of the type %x: %+v, %d", kind, f, err)
		}
		checkRefused(t, kind+"\xd0\x00\x00\x00\x00\x00\x00\x01", 0, api.ErrFrameField)
		checkRefused(t, kind+lastBytes, 0, api.ErrFrameField)
		checkRefused(t, kind+"\xd0\x00\x00\x00\x00\x00\x00", 0, api.ErrFrameShort)
	}
	for _, kind := range []string{"\x10", "\x11\x00", "\x14", "\x15\x00"} {
		if f, _, err := Decode([]byte(kind+lastBytes), 0); f.Limit != last || err != api.OK {
			t.Errorf("P4.3: a limit of MaxNumber of the type %x: %+v, %d", kind, f, err)
		}
	}
}

// TestOffsetAndBytesTogether: up to MaxNumber; above it that is told ahead of the bytes' end.
func TestOffsetAndBytesTogether(t *testing.T) {
	for _, kind := range []string{"\x06", "\x0e\x01", "\x0f\x01"} {
		for _, there := range []string{"", "a", "ab", "abc"} {
			checkRefused(t, kind+lastBytes+"\x01"+there, 0, api.ErrFrameField)
			checkRefused(t, kind+lastBytes+lastBytes+there, 0, api.ErrFrameField)
			checkRefused(t, kind+"\x01"+lastBytes+there, 0, api.ErrFrameField)
			checkRefused(t, kind+"\x00"+lastBytes+there, 0, api.ErrFrameShort)
			checkRefused(t, kind+"\xff\xff\xff\xff\xff\xff\xff\xfe\x02"+there, 0, api.ErrFrameField)
		}
		checkRefused(t, kind+"\xff\xff\xff\xff\xff\xff\xff\xfe\x01", 0, api.ErrFrameShort)
		checkRefused(t, kind+lastBytes, 0, api.ErrFrameShort)
		for _, at := range []string{lastBytes + "\x00", "\xff\xff\xff\xff\xff\xff\xff\xfe\x01a", "\xff\xff\xff\xff\xff\xff\xff\xfd\x02ab"} {
			if _, end, err := Decode([]byte(kind+at), 0); end != len(kind+at) || err != api.OK {
				t.Errorf("P4.3: Decode(%x) at MaxNumber: %d, %d", kind+at, end, err)
			}
		}
	}
	checkRefused(t, "\x0a\x01"+lastBytes, 0, api.ErrFrameShort)
	checkRefused(t, "\x1c\x00\x00"+lastBytes, 0, api.ErrFrameShort)
	checkRefused(t, "\x1d\x00"+lastBytes, 0, api.ErrFrameShort)
	// With Tail.
	checkRefused(t, "\x0c\x01"+lastBytes+"a", 0, api.ErrFrameField)
	checkRefused(t, "\x0d\x01\xff\xff\xff\xff\xff\xff\xff\xfeab", 0, api.ErrFrameField)
	checkRead(t, "\x0d\x01\xff\xff\xff\xff\xff\xff\xff\xfea", 0, api.Frame{Kind: api.KStream, Stream: 1, Offset: last - 1, Data: []byte("a"), Fin: true, Tail: true}, 11)
	checkRead(t, "\x0c\x01"+lastBytes, 0, api.Frame{Kind: api.KStream, Stream: 1, Offset: last, Tail: true}, 10)
}

func TestTailAndNone(t *testing.T) {
	checkRead(t, "\x08\x04hi\x01\x00", 0, api.Frame{Kind: api.KStream, Stream: 4, Data: []byte("hi\x01\x00"), Tail: true}, 6)
	checkRead(t, "\x0a\x04\x02hi\x01\x00", 0, api.Frame{Kind: api.KStream, Stream: 4, Data: []byte("hi")}, 5)
	checkRead(t, "\x08\x04", 0, api.Frame{Kind: api.KStream, Stream: 4, Tail: true}, 2)
	checkRead(t, "\x0c\x04\x00", 0, api.Frame{Kind: api.KStream, Stream: 4, Tail: true}, 3)
	checkRead(t, "\x0f\x04\x00\x00\x01", 0, api.Frame{Kind: api.KStream, Stream: 4, Fin: true}, 4)
	checkRefused(t, "\x08", 0, api.ErrFrameShort)
	checkRefused(t, "\x0c\x04", 0, api.ErrFrameShort)
	checkRefused(t, "\x0a\x04", 0, api.ErrFrameShort)
}

// TestEveryBeginning: of a frame's bytes that lack their end.
func TestEveryBeginning(t *testing.T) {
	for _, c := range table() {
		if open(c.f) {
			continue
		}
		for n := range len(c.b) {
			if n > 40 && n < len(c.b)-40 {
				continue
			}
			checkRefused(t, c.b[:n], 0, api.ErrFrameShort)
			checkRefused(t, "\x01\xff"+c.b[:n], 2, api.ErrFrameShort)
		}
	}
	// Those that go up to the end are read from any beginning that has their numbers.
	checkRead(t, "\x00\x00", 0, api.Frame{Kind: api.KPadding, Size: 2}, 2)
	checkRead(t, "\x08\x04h", 0, api.Frame{Kind: api.KStream, Stream: 4, Data: []byte("h"), Tail: true}, 3)
}

// TestWhateverStandsAround: P4.10.
func TestWhateverStandsAround(t *testing.T) {
	for _, c := range table() {
		for _, ahead := range []string{"", "\x00", "\x01", "\xff\xff", "\x0c\x04"} {
			for _, behind := range []string{"", "\x00", "\x01\x00", "\xff\xff\xff", "\x1e"} {
				if behind != "" && (c.f.Tail || c.f.Kind == api.KPadding && behind[0] == 0) {
					continue
				}
				checkRead(t, ahead+c.b+behind, len(ahead), c.f, len(ahead+c.b))
			}
		}
	}
}

func TestReadingKeepsNothing(t *testing.T) {
	b := []byte("\x06\x00\x03abc\x0a\x04\x02hi\x02\x05\x00\x01\x00\x00\x00----")[:16]
	b = append(b, 0)
	before := string(b[:cap(b)])
	f, end, _ := Decode(b, 0)
	g, _, _ := Decode(b, 0)
	h, _, _ := Decode(b, end)
	for i := range f.Data[:cap(f.Data)] {
		f.Data[:cap(f.Data)][i] = '!'
	}
	if string(b[:cap(b)]) != before || string(g.Data) != "abc" || string(h.Data) != "hi" {
		t.Errorf("R3: behind a frame's Data: %x, %q, %q", b, g.Data, h.Data)
	}
	for i := range b {
		b[i] = '?'
	}
	if string(g.Data) != "abc" || string(h.Data) != "hi" {
		t.Errorf("R3: behind the bytes: %q, %q", g.Data, h.Data)
	}
}
