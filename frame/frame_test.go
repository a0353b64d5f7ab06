package frame

import (
	"bytes"
	"math"
	"slices"
	"strings"
	"testing"

	"portage/api"
)

const last = api.MaxNumber

// lastBytes is MaxNumber as it is written.
const lastBytes = "\xff\xff\xff\xff\xff\xff\xff\xff"

// runsOf makes runs of Lo, Hi, Lo, Hi ..
func runsOf(l ...int64) []api.Run {
	var out []api.Run
	for i := 0; i < len(l); i += 2 {
		out = append(out, api.Run{Lo: l[i], Hi: l[i+1]})
	}
	return out
}

// same holds two frames against each other; a nil list and an empty one are the same.
func same(a, b api.Frame) bool {
	return a.Kind == b.Kind && a.Stream == b.Stream && a.Offset == b.Offset && bytes.Equal(a.Data, b.Data) && a.Size == b.Size &&
		a.Fin == b.Fin && a.Tail == b.Tail && a.Limit == b.Limit && a.Uni == b.Uni && a.Code == b.Code && a.Own == b.Own &&
		a.Delay == b.Delay && slices.Equal(a.Runs, b.Runs) && a.Marks == b.Marks && a.Counts == b.Counts
}

// A row is a frame, and what it is written as.
type row struct {
	f api.Frame
	b string
}

// table has every row of the chapter's table of kinds, its examples, and the edges of the fields.
func table() []row {
	l := []row{
		{api.Frame{Kind: api.KPing}, "\x01"},
		{api.Frame{Kind: api.KPadding, Size: 1}, "\x00"},
		{api.Frame{Kind: api.KPadding, Size: 3}, "\x00\x00\x00"},
		{api.Frame{Kind: api.KPadding, Size: 65534}, strings.Repeat("\x00", 65534)},
		{api.Frame{Kind: api.KPadding, Size: 65535}, strings.Repeat("\x00", 65535)},
		{api.Frame{Kind: api.KReset, Stream: 4, Code: 1, Size: 64}, "\x04\x04\x01\x40\x40"},
		{api.Frame{Kind: api.KReset}, "\x04\x00\x00\x00"},
		{api.Frame{Kind: api.KReset, Stream: last, Code: last, Size: last}, "\x04" + lastBytes + lastBytes + lastBytes},
		{api.Frame{Kind: api.KStop, Stream: 4, Code: 300}, "\x05\x04\x41\x2c"},
		{api.Frame{Kind: api.KStop, Stream: last, Code: last}, "\x05" + lastBytes + lastBytes},
		{api.Frame{Kind: api.KMaxData, Limit: 64}, "\x10\x40\x40"},
		{api.Frame{Kind: api.KMaxData, Limit: last}, "\x10" + lastBytes},
		{api.Frame{Kind: api.KMaxStreamData, Stream: 1, Limit: 2}, "\x11\x01\x02"},
		{api.Frame{Kind: api.KMaxStreamData, Stream: last, Limit: last}, "\x11" + lastBytes + lastBytes},
		{api.Frame{Kind: api.KMaxStreams, Limit: 8}, "\x12\x08"},
		{api.Frame{Kind: api.KMaxStreams, Uni: true, Limit: 9}, "\x13\x09"},
		{api.Frame{Kind: api.KMaxStreams, Limit: 1 << 60}, "\x12\xd0\x00\x00\x00\x00\x00\x00\x00"},
		{api.Frame{Kind: api.KMaxStreams, Uni: true, Limit: 1 << 60}, "\x13\xd0\x00\x00\x00\x00\x00\x00\x00"},
		{api.Frame{Kind: api.KDataBlocked, Limit: 9}, "\x14\x09"},
		{api.Frame{Kind: api.KDataBlocked, Limit: last}, "\x14" + lastBytes},
		{api.Frame{Kind: api.KStreamDataBlocked, Stream: 7, Limit: 9}, "\x15\x07\x09"},
		{api.Frame{Kind: api.KStreamDataBlocked, Stream: last, Limit: last}, "\x15" + lastBytes + lastBytes},
		{api.Frame{Kind: api.KStreamsBlocked, Limit: 9}, "\x16\x09"},
		{api.Frame{Kind: api.KStreamsBlocked, Uni: true, Limit: 8}, "\x17\x08"},
		{api.Frame{Kind: api.KStreamsBlocked, Limit: 1 << 60}, "\x16\xd0\x00\x00\x00\x00\x00\x00\x00"},
		{api.Frame{Kind: api.KStreamsBlocked, Uni: true, Limit: 1 << 60}, "\x17\xd0\x00\x00\x00\x00\x00\x00\x00"},
		{api.Frame{Kind: api.KChallenge, Data: []byte("12345678")}, "\x1a12345678"},
		{api.Frame{Kind: api.KResponse, Data: []byte("\x00\x00\x00\x00\x00\x00\x00\x00")}, "\x1b\x00\x00\x00\x00\x00\x00\x00\x00"},
		{api.Frame{Kind: api.KClose, Code: 10, Size: 6, Data: []byte("no")}, "\x1c\x0a\x06\x02no"},
		{api.Frame{Kind: api.KClose}, "\x1c\x00\x00\x00"},
		{api.Frame{Kind: api.KClose, Code: last, Size: last}, "\x1c" + lastBytes + lastBytes + "\x00"},
		{api.Frame{Kind: api.KClose, Own: true, Code: 1000}, "\x1d\x43\xe8\x00"},
		{api.Frame{Kind: api.KClose, Own: true, Data: []byte("why")}, "\x1d\x00\x03why"},
		{api.Frame{Kind: api.KDone}, "\x1e"},
	}
	l = append(l, acks()...)
	return append(l, data()...)
}

func acks() []row {
	return []row{
		{api.Frame{Kind: api.KAck, Delay: 70, Runs: runsOf(12, 20, 7, 9, 2, 2)}, "\x02\x14\x40\x46\x02\x08\x01\x02\x03\x00"},
		{api.Frame{Kind: api.KAck, Delay: 70, Runs: runsOf(12, 20, 7, 9, 2, 2), Marks: true, Counts: [3]int64{5, 0, 1}}, "\x03\x14\x40\x46\x02\x08\x01\x02\x03\x00\x05\x00\x01"},
		{api.Frame{Kind: api.KAck, Runs: runsOf(0, 0)}, "\x02\x00\x00\x00\x00"},
		{api.Frame{Kind: api.KAck, Runs: runsOf(0, 0), Marks: true}, "\x03\x00\x00\x00\x00\x00\x00\x00"},
		{api.Frame{Kind: api.KAck, Runs: runsOf(5, 5, 0, 3)}, "\x02\x05\x00\x01\x00\x00\x03"},
		{api.Frame{Kind: api.KAck, Runs: runsOf(5, 5, 0, 0)}, "\x02\x05\x00\x01\x00\x03\x00"},
		{api.Frame{Kind: api.KAck, Runs: runsOf(2, 2, 0, 0)}, "\x02\x02\x00\x01\x00\x00\x00"},
		{api.Frame{Kind: api.KAck, Delay: last, Runs: runsOf(0, last), Marks: true, Counts: [3]int64{last, last, last}}, "\x03" + lastBytes + lastBytes + "\x00" + lastBytes + lastBytes + lastBytes + lastBytes},
		{api.Frame{Kind: api.KAck, Runs: runsOf(last, last, 0, 0)}, "\x02" + lastBytes + "\x00\x01\x00\xff\xff\xff\xff\xff\xff\xff\xfd\x00"},
	}
}

func data() []row {
	long := strings.Repeat("x", 16384)
	return []row{
		{api.Frame{Kind: api.KCrypto, Offset: 300, Data: []byte("abc")}, "\x06\x41\x2c\x03abc"},
		{api.Frame{Kind: api.KCrypto}, "\x06\x00\x00"},
		{api.Frame{Kind: api.KCrypto, Offset: last}, "\x06" + lastBytes + "\x00"},
		{api.Frame{Kind: api.KCrypto, Offset: last - 1, Data: []byte("a")}, "\x06\xff\xff\xff\xff\xff\xff\xff\xfe\x01a"},
		{api.Frame{Kind: api.KStream, Stream: 4, Data: []byte("hi")}, "\x0a\x04\x02hi"},
		{api.Frame{Kind: api.KStream, Stream: 4, Data: []byte("hi"), Fin: true}, "\x0b\x04\x02hi"},
		{api.Frame{Kind: api.KStream, Stream: 4, Offset: 1, Data: []byte("hi")}, "\x0e\x04\x01\x02hi"},
		{api.Frame{Kind: api.KStream, Stream: 4, Offset: 64, Data: []byte("hi"), Fin: true}, "\x0f\x04\x40\x40\x02hi"},
		{api.Frame{Kind: api.KStream, Stream: 4, Data: []byte("hi"), Tail: true}, "\x08\x04hi"},
		{api.Frame{Kind: api.KStream, Stream: 4, Data: []byte("hi"), Fin: true, Tail: true}, "\x09\x04hi"},
		{api.Frame{Kind: api.KStream, Stream: 4, Offset: 2, Data: []byte("hi"), Tail: true}, "\x0c\x04\x02hi"},
		{api.Frame{Kind: api.KStream, Stream: 4, Offset: 2, Fin: true, Tail: true}, "\x0d\x04\x02"},
		{api.Frame{Kind: api.KStream}, "\x0a\x00\x00"},
		{api.Frame{Kind: api.KStream, Tail: true}, "\x08\x00"},
		{api.Frame{Kind: api.KStream, Stream: last, Offset: last}, "\x0e" + lastBytes + lastBytes + "\x00"},
		{api.Frame{Kind: api.KStream, Offset: last - 2, Data: []byte("hi")}, "\x0e\x00\xff\xff\xff\xff\xff\xff\xff\xfd\x02hi"},
		{api.Frame{Kind: api.KStream, Offset: last - 2, Data: []byte("hi"), Tail: true}, "\x0c\x00\xff\xff\xff\xff\xff\xff\xff\xfdhi"},
		{api.Frame{Kind: api.KStream, Data: []byte(long)}, "\x0a\x00\x80\x00\x40\x00" + long},
	}
}

// open tells whether what stands behind a frame may become a part of it.
func open(f api.Frame) bool { return f.Tail || f.Kind == api.KPadding }

func checkFault(t *testing.T, f api.Frame, want api.Errno) {
	t.Helper()
	if b, err := Encode(f); len(b) != 0 || err != want {
		t.Errorf("P4.1: Encode(%+v) = %x, %d, want no bytes, %d", f, b, err, want)
	}
	if n, err := Size(f); n != 0 || err != want {
		t.Errorf("P4.2: Size(%+v) = %d, %d, want 0, %d", f, n, err, want)
	}
}

func TestEveryRow(t *testing.T) {
	for _, c := range table() {
		b, err := Encode(c.f)
		if string(b) != c.b || err != api.OK {
			t.Errorf("P4.1: Encode(%+v) = %.40x, %d, want %.40x", c.f, b, err, c.b)
		}
		n, err := Size(c.f)
		if n != len(c.b) || err != api.OK {
			t.Errorf("P4.2: Size(%+v) = %d, %d, want %d", c.f, n, err, len(c.b))
		}
		f, end, err := Decode([]byte(c.b), 0)
		if !same(f, c.f) || end != len(c.b) || err != api.OK {
			t.Errorf("P4.3: Decode(%.40x) = %+v, %d, %d, want %+v", c.b, f, end, err, c.f)
		}
	}
}

// kinds are those of the table.
var kinds = []int{0x00, 0x01, 0x02, 0x04, 0x05, 0x06, 0x08, 0x10, 0x11, 0x12, 0x14, 0x15, 0x16, 0x1a, 0x1b, 0x1c, 0x1e}

// strangeKinds are none of the table; some are types of it, some would be one of it if they were cut to a byte or to 32 bits.
func strangeKinds() []int {
	l := []int{math.MinInt, math.MinInt + 1, -1 << 32, -256, -2, -1, 64, 65, 256, 257, 258, 264, 1 << 32, 1<<32 + 1, 1 << 62, 1<<62 + 6, math.MaxInt}
	for k := range 64 {
		if !slices.Contains(kinds, k) {
			l = append(l, k)
		}
	}
	return l
}

func TestNoSuchKind(t *testing.T) {
	for _, k := range strangeKinds() {
		checkFault(t, api.Frame{Kind: k}, api.ErrFrameKind)
		// What may not be beside it is told behind it.
		checkFault(t, api.Frame{Kind: k, Stream: -1, Offset: -1, Size: -1, Limit: -1, Code: -1, Delay: -1, Runs: runsOf(-1, -5)}, api.ErrFrameKind)
		checkFault(t, api.Frame{Kind: k, Tail: true, Fin: true, Uni: true, Own: true, Marks: true, Data: []byte("12345678")}, api.ErrFrameKind)
	}
}

// sound is a frame of each kind that may be, with what stands beside the kind and without.
func sound() []api.Frame {
	eight := []byte("12345678")
	return []api.Frame{
		{Kind: api.KPadding, Size: 2}, {Kind: api.KPing}, {Kind: api.KDone},
		{Kind: api.KAck, Runs: runsOf(7, 9)}, {Kind: api.KAck, Runs: runsOf(7, 9), Marks: true},
		{Kind: api.KReset, Stream: 1, Code: 2, Size: 3}, {Kind: api.KStop, Stream: 1, Code: 2},
		{Kind: api.KCrypto, Offset: 2, Data: eight}, {Kind: api.KStream, Stream: 1, Data: eight},
		{Kind: api.KStream, Stream: 1, Offset: 5, Data: eight, Fin: true, Tail: true},
		{Kind: api.KMaxData, Limit: 5}, {Kind: api.KMaxStreamData, Stream: 1, Limit: 5},
		{Kind: api.KMaxStreams, Limit: 5}, {Kind: api.KMaxStreams, Limit: 5, Uni: true},
		{Kind: api.KDataBlocked, Limit: 5}, {Kind: api.KStreamDataBlocked, Stream: 1, Limit: 5},
		{Kind: api.KStreamsBlocked, Limit: 5}, {Kind: api.KStreamsBlocked, Limit: 5, Uni: true},
		{Kind: api.KChallenge, Data: eight}, {Kind: api.KResponse, Data: eight},
		{Kind: api.KClose, Code: 5, Size: 6, Data: eight}, {Kind: api.KClose, Code: 5, Own: true, Data: eight},
	}
}

// number is a field that is one number: which kinds' rows name it, and how to set it.
type number struct {
	name string
	rows []int
	set  func(*api.Frame, int64)
}

func numbers() []number {
	return []number{
		{"Stream", []int{api.KReset, api.KStop, api.KStream, api.KMaxStreamData, api.KStreamDataBlocked}, func(f *api.Frame, v int64) { f.Stream = v }},
		{"Offset", []int{api.KCrypto, api.KStream}, func(f *api.Frame, v int64) { f.Offset = v }},
		{"Size", []int{api.KPadding, api.KReset, api.KClose}, func(f *api.Frame, v int64) { f.Size = v }},
		{"Limit", []int{api.KMaxData, api.KMaxStreamData, api.KMaxStreams, api.KDataBlocked, api.KStreamDataBlocked, api.KStreamsBlocked}, func(f *api.Frame, v int64) { f.Limit = v }},
		{"Code", []int{api.KReset, api.KStop, api.KClose}, func(f *api.Frame, v int64) { f.Code = v }},
		{"Delay", []int{api.KAck}, func(f *api.Frame, v int64) { f.Delay = v }},
		{"Counts 0", []int{api.KAck}, func(f *api.Frame, v int64) { f.Counts[0] = v }},
		{"Counts 1", []int{api.KAck}, func(f *api.Frame, v int64) { f.Counts[1] = v }},
		{"Counts 2", []int{api.KAck}, func(f *api.Frame, v int64) { f.Counts[2] = v }},
	}
}

// bounds tells between which bounds the field is; of one that the frame's row does not name, 0 and 0.
func bounds(f api.Frame, n number) (least, most int64) {
	if !slices.Contains(n.rows, f.Kind) || strings.HasPrefix(n.name, "Counts") && !f.Marks || n.name == "Size" && f.Own {
		return 0, 0
	}
	switch {
	case f.Kind == api.KPadding:
		return 1, 65535
	case n.name == "Limit" && (f.Kind == api.KMaxStreams || f.Kind == api.KStreamsBlocked):
		return 0, 1 << 60
	case n.name == "Offset":
		return 0, last - int64(len(f.Data))
	}
	return 0, last
}

// TestNumbersInTheirBounds sets each number of each kind to its bounds and to the next ones beyond; a field that the row does not name may be 0 alone.
func TestNumbersInTheirBounds(t *testing.T) {
	for _, f := range sound() {
		for _, n := range numbers() {
			least, most := bounds(f, n)
			g := f
			for _, v := range []int64{least, most, (least + most) / 2} {
				n.set(&g, v)
				if _, err := Encode(g); err != api.OK {
					t.Errorf("P4.1, F4: Encode(%+v), with %s %d: %d", g, n.name, v, err)
				}
			}
			for _, v := range []int64{least - 1, most + 1, most + 2, -1, -5, math.MinInt64, math.MinInt64 + 1, math.MaxInt64, last + 1} {
				n.set(&g, v)
				checkFault(t, g, api.ErrFrameField)
			}
		}
	}
}

// TestOtherFields sets the fields that are no numbers, where the row names them and where it doesn't.
func TestOtherFields(t *testing.T) {
	flags := []struct {
		rows []int
		set  func(*api.Frame, bool)
	}{
		{[]int{api.KStream}, func(f *api.Frame, v bool) { f.Fin = v }},
		{[]int{api.KStream}, func(f *api.Frame, v bool) { f.Tail = v }},
		{[]int{api.KMaxStreams, api.KStreamsBlocked}, func(f *api.Frame, v bool) { f.Uni = v }},
		{[]int{api.KClose}, func(f *api.Frame, v bool) { f.Own = v }},
		{[]int{api.KAck}, func(f *api.Frame, v bool) { f.Marks = v }},
	}
	for _, f := range sound() {
		for _, flag := range flags {
			g := f
			g.Size *= oneIf(f.Kind != api.KClose) // with Own it is to be 0
			flag.set(&g, true)
			if !slices.Contains(flag.rows, f.Kind) {
				checkFault(t, g, api.ErrFrameField)
			} else if _, err := Encode(g); err != api.OK {
				t.Errorf("P4.1, F4: Encode(%+v): %d", g, err)
			}
		}
		if !slices.Contains([]int{api.KCrypto, api.KStream, api.KChallenge, api.KResponse, api.KClose}, f.Kind) {
			g := f
			g.Data = []byte("12345678")
			checkFault(t, g, api.ErrFrameField)
			g.Data = []byte{}
			if _, err := Encode(g); err != api.OK {
				t.Errorf("R3, P4.1: Encode(%+v) with an empty list: %d", g, err)
			}
		}
		if f.Kind != api.KAck {
			g := f
			g.Runs = runsOf(0, 0)
			checkFault(t, g, api.ErrFrameField)
			g.Runs = []api.Run{}
			if _, err := Encode(g); err != api.OK {
				t.Errorf("R3, P4.1: Encode(%+v) with an empty list: %d", g, err)
			}
		}
	}
}

func TestRunsThatMayNotBe(t *testing.T) {
	for _, l := range [][]api.Run{
		nil, {}, runsOf(-1, 3), runsOf(5, 4), runsOf(0, -1), runsOf(-1, -1), runsOf(0, last+1), runsOf(last+1, last+1),
		runsOf(math.MinInt64, math.MaxInt64), runsOf(math.MaxInt64, math.MinInt64),
		runsOf(5, 9, 1, 4), runsOf(5, 9, 1, 5), runsOf(5, 9, 5, 9), runsOf(1, 3, 5, 9), runsOf(5, 9, 1, 9), runsOf(5, 9, 20, 30),
		runsOf(5, 9, 3, 2), runsOf(5, 9, -1, 3), runsOf(5, 9, -7, -3), runsOf(1, 1, -1, -1), runsOf(0, 0, -2, -2),
		runsOf(5, 9, 3, last+1), runsOf(5, 9, math.MinInt64, math.MinInt64), runsOf(5, 9, math.MaxInt64, math.MaxInt64),
		runsOf(12, 20, 7, 9, 6, 6), runsOf(12, 20, 7, 9, 2, 6), runsOf(12, 20, 7, 9, 12, 20), runsOf(12, 20, 7, 9, 5, 4),
	} {
		checkFault(t, api.Frame{Kind: api.KAck, Runs: l}, api.ErrFrameField)
		checkFault(t, api.Frame{Kind: api.KAck, Runs: l, Marks: true}, api.ErrFrameField)
	}
}

// TestManyRuns: the runs of a frame have no bound in this layer.
func TestManyRuns(t *testing.T) {
	for _, n := range []int{31, 32, 33, 64, 65, 1000} {
		f := api.Frame{Kind: api.KAck}
		for i := range n {
			f.Runs = append(f.Runs, api.Run{Lo: int64(2 * (n - i)), Hi: int64(2 * (n - i))})
		}
		b, err := Encode(f)
		if err != api.OK {
			t.Fatalf("P4.1: Encode of %d runs: %d", n, err)
		}
		if g, end, err := Decode(b, 0); !same(f, g) || end != len(b) || err != api.OK {
			t.Errorf("P4.3: %d runs are read as %d, %d, %d", n, len(g.Runs), end, err)
		}
	}
}

func TestDataThatMayNotBe(t *testing.T) {
	for n := range 20 {
		d := bytes.Repeat([]byte{'d'}, n)
		for _, k := range []int{api.KChallenge, api.KResponse} {
			f := api.Frame{Kind: k, Data: d}
			if b, err := Encode(f); n == 8 && (string(b) != string(rune(k))+"dddddddd" || err != api.OK) {
				t.Errorf("P4.1: Encode(%+v) = %x, %d", f, b, err)
			}
			if n != 8 {
				checkFault(t, f, api.ErrFrameField)
			}
		}
		for _, k := range []int{api.KCrypto, api.KStream} {
			f := api.Frame{Kind: k, Data: d, Offset: last - int64(n)}
			if _, err := Encode(f); err != api.OK {
				t.Errorf("P4.1: Encode(%+v): %d, at MaxNumber", f, err)
			}
			f.Offset++
			checkFault(t, f, api.ErrFrameField)
			f.Tail = true
			checkFault(t, f, api.ErrFrameField)
		}
	}
}

// TestWritingKeepsNothing: what is handed in stays, and what is answered shares nothing with it, spare room too.
func TestWritingKeepsNothing(t *testing.T) {
	room := []byte("12345678----")
	f := api.Frame{Kind: api.KResponse, Data: room[:8]}
	b, _ := Encode(f)
	c, _ := Encode(f)
	for i := range b[:cap(b)] {
		b[:cap(b)][i] = '!'
	}
	if string(room) != "12345678----" || string(c) != "\x1b12345678" {
		t.Errorf("R3: behind Encode's bytes: %q, %q", room, c)
	}
	l := append(runsOf(5, 9, 1, 2), runsOf(77, 78)...)
	if _, err := Join(api.Frame{Kind: api.KAck, Runs: l[:2]}, f); err != api.OK || !slices.Equal(l, runsOf(5, 9, 1, 2, 77, 78)) || string(room) != "12345678----" {
		t.Errorf("R3: behind Join: %v, %q, %d", l, room, err)
	}
	if _, err := Size(api.Frame{Kind: api.KAck, Runs: l[:2]}); err != api.OK || !slices.Equal(l, runsOf(5, 9, 1, 2, 77, 78)) {
		t.Errorf("R3: behind Size: %v, %d", l, err)
	}
}
