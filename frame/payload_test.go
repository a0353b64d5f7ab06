package frame

import (
	"slices"
	"strings"
	"testing"

	"portage/api"
)

func sameAll(a, b []api.Frame) bool { return slices.EqualFunc(a, b, same) }

// given is what an iterator gives: places, and frames.
func given(b []byte) (places []int, l []api.Frame) {
	for at, f := range All(b) {
		places = append(places, at)
		l = append(l, f)
	}
	return places, l
}

func checkParse(t *testing.T, b string, want []api.Frame) {
	t.Helper()
	l, at, err := Parse([]byte(b))
	if !sameAll(l, want) || at != len(b) || err != api.OK {
		t.Errorf("P4.4: Parse(%.40x) = %+v, %d, %d, want %+v, %d", b, l, at, err, want, len(b))
	}
	if _, l := given([]byte(b)); !sameAll(l, want) {
		t.Errorf("P4.5: All(%.40x) gives %+v, want %+v", b, l, want)
	}
}

// checkStop: the payload's frames can be read up to a place.
func checkStop(t *testing.T, b string, place int, want api.Errno) {
	t.Helper()
	l, at, err := Parse([]byte(b))
	if len(l) != 0 || at != place || err != want {
		t.Errorf("P4.4: Parse(%.40x) = %+v, %d, %d, want no frames, %d, %d", b, l, at, err, place, want)
	}
	var ahead []api.Frame
	if place > 0 {
		ahead, _, _ = Parse([]byte(b[:place]))
	}
	places, got := given([]byte(b))
	if !sameAll(got, ahead) || len(places) != len(got) {
		t.Errorf("P4.5: All(%.40x) gives %+v at %v, want those up to %d", b, got, places, place)
	}
}

func TestParse(t *testing.T) {
	ping, done := api.Frame{Kind: api.KPing}, api.Frame{Kind: api.KDone}
	pad := func(n int64) api.Frame { return api.Frame{Kind: api.KPadding, Size: n} }
	checkParse(t, "\x01\x00\x00\x1e", []api.Frame{ping, pad(2), done})
	checkParse(t, "\x01", []api.Frame{ping})
	checkParse(t, "\x00", []api.Frame{pad(1)})
	checkParse(t, "\x01\x01\x01", []api.Frame{ping, ping, ping})
	checkParse(t, strings.Repeat("\x00", 65535), []api.Frame{pad(65535)})
	checkParse(t, strings.Repeat("\x00", 65536), []api.Frame{pad(65535), pad(1)})
	checkParse(t, "\x01"+strings.Repeat("\x00", 2*65535+3)+"\x1e", []api.Frame{ping, pad(65535), pad(65535), pad(3), done})
	checkParse(t, "\x0b\x04\x02hi\x0d\x04\x02\x01\x1e", []api.Frame{
		{Kind: api.KStream, Stream: 4, Data: []byte("hi"), Fin: true},
		{Kind: api.KStream, Stream: 4, Offset: 2, Data: []byte("\x01\x1e"), Fin: true, Tail: true},
	})
}

func TestParseThatStops(t *testing.T) {
	checkStop(t, "", 0, api.ErrFrameEmpty)
	checkStop(t, "\x01\x41", 1, api.ErrFrameShort)
	checkStop(t, "\x41", 0, api.ErrFrameShort)
	checkStop(t, "\x07\x01", 0, api.ErrFrameKind)
	checkStop(t, "\x01\x00\x00\x07\x01", 3, api.ErrFrameKind)
	checkStop(t, "\x01\x06\x00\x04abc", 1, api.ErrFrameShort)
	checkStop(t, "\x1e\x02\x05\x00\x00\x06\x07", 1, api.ErrFrameField)
	checkStop(t, strings.Repeat("\x00", 65536)+"\x40\x01", 65536, api.ErrFrameKind)
	if l, at, err := Parse(nil); len(l) != 0 || at != 0 || err != api.ErrFrameEmpty {
		t.Errorf("P4.4: Parse(nil) = %v, %d, %d", l, at, err)
	}
}

func TestAll(t *testing.T) {
	b := []byte("\x01\x00\x00\x06\x00\x01a\x1e\x07\x01")
	want := []int{0, 1, 3, 7}
	seq := All(b)
	for range 2 {
		var places []int
		for at := range seq {
			places = append(places, at)
			var within []int
			for in := range seq {
				within = append(within, in)
			}
			if !slices.Equal(within, want) {
				t.Errorf("P4.5: within a range of itself it gives %v, want %v", within, want)
			}
		}
		if !slices.Equal(places, want) {
			t.Errorf("P4.5: it gives %v, want %v", places, want)
		}
	}
	for n := range 4 {
		var places []int
		for at := range seq {
			places = append(places, at)
			if len(places) == n+1 {
				break
			}
		}
		if !slices.Equal(places, want[:n+1]) {
			t.Errorf("P4.5: left behind %d it gave %v", n+1, places)
		}
	}
	for _, none := range [][]byte{nil, {}, {0x40}, {0x07, 0x01}} {
		seq := All(none)
		if seq == nil {
			t.Fatal("P4.5: nil is no iterator")
		}
		for at := range seq {
			t.Errorf("P4.5: All(%x) gives %d", none, at)
		}
	}
}

// TestAllLooksAtTheBytes: while it is ranged over, not ahead of that; what it gave stays.
func TestAllLooksAtTheBytes(t *testing.T) {
	b := []byte("\x06\x00\x02ab\x01")
	seq := All(b)
	b[3] = 'x'
	b[5] = 0x1e
	var l []api.Frame
	for _, f := range seq {
		l = append(l, f)
	}
	b[3] = 'y'
	want := []api.Frame{{Kind: api.KCrypto, Data: []byte("xb")}, {Kind: api.KDone}}
	if !sameAll(l, want) {
		t.Errorf("P4.5, R3: it gives %+v, want %+v", l, want)
	}
	var kind int
	for at, f := range All(b) {
		if at == 0 {
			b[5] = 0x01
		}
		kind = f.Kind
	}
	if kind != api.KPing {
		t.Errorf("P4.5: bytes that changed in the range are read as kind %d", kind)
	}
}

func checkJoin(t *testing.T, want string, l ...api.Frame) {
	t.Helper()
	if b, err := Join(l...); string(b) != want || err != api.OK {
		t.Errorf("P4.6: Join(%+v) = %x, %d, want %x", l, b, err, want)
	}
}

func checkNoJoin(t *testing.T, want api.Errno, l ...api.Frame) {
	t.Helper()
	if b, err := Join(l...); len(b) != 0 || err != want {
		t.Errorf("P4.6: Join(%+v) = %x, %d, want no bytes, %d", l, b, err, want)
	}
}

func TestJoin(t *testing.T) {
	ping, done := api.Frame{Kind: api.KPing}, api.Frame{Kind: api.KDone}
	tail := api.Frame{Kind: api.KStream, Stream: 4, Data: []byte("hi"), Tail: true}
	strange, wrong := api.Frame{Kind: 3}, api.Frame{Kind: api.KPing, Limit: 1}
	checkJoin(t, "")
	checkJoin(t, "", []api.Frame{}...)
	checkJoin(t, "\x00\x00\x00", api.Frame{Kind: api.KPadding, Size: 1}, api.Frame{Kind: api.KPadding, Size: 2})
	checkJoin(t, "\x01", ping)
	checkJoin(t, "\x01\x1e\x01", ping, done, ping)
	checkJoin(t, "\x08\x04hi", tail)
	checkJoin(t, "\x01\x08\x04hi", ping, tail)
	checkNoJoin(t, api.ErrFrameField, tail, ping)
	checkNoJoin(t, api.ErrFrameField, tail, tail)
	checkNoJoin(t, api.ErrFrameField, ping, tail, ping)
	checkNoJoin(t, api.ErrFrameKind, strange)
	checkNoJoin(t, api.ErrFrameField, wrong)
	// Frame by frame.
	checkNoJoin(t, api.ErrFrameKind, ping, strange, wrong)
	checkNoJoin(t, api.ErrFrameField, ping, wrong, strange)
	checkNoJoin(t, api.ErrFrameField, tail, strange)
	checkNoJoin(t, api.ErrFrameKind, strange, tail, ping)
	// Of one frame Encode's error is first.
	checkNoJoin(t, api.ErrFrameKind, api.Frame{Kind: 3, Tail: true}, ping)
}

func TestJoinKeepsNothing(t *testing.T) {
	l := []api.Frame{{Kind: api.KPing}, {Kind: api.KCrypto, Data: []byte("abc")}, {Kind: api.KDone}}
	b, _ := Join(l[:2]...)
	c, _ := Join(l[:2]...)
	for i := range b[:cap(b)] {
		b[:cap(b)][i] = '!'
	}
	if string(c) != "\x01\x06\x00\x03abc" || string(l[1].Data) != "abc" || l[2].Kind != api.KDone {
		t.Errorf("R3: behind Join's bytes: %x, %+v", c, l)
	}
}

// merged is l, but that padding frames that stand side by side are one, as far as F3 lets them.
func merged(l []api.Frame) []api.Frame {
	var out []api.Frame
	for _, f := range l {
		n := len(out) - 1
		if f.Kind != api.KPadding || n < 0 || out[n].Kind != api.KPadding {
			out = append(out, f)
			continue
		}
		all := out[n].Size + f.Size
		out[n].Size = min(all, 65535)
		if all > 65535 {
			out = append(out, api.Frame{Kind: api.KPadding, Size: all - 65535})
		}
	}
	return out
}

// TestParseOfJoin: P4.10, at strewn lists of frames.
func TestParseOfJoin(t *testing.T) {
	rows := table()
	x := uint64(4)
	next := func(n int) int {
		x = x*6364136223846793005 + 1442695040888963407
		return int(x >> 33 % uint64(n))
	}
	for range 2000 {
		var l []api.Frame
		n := 1 + next(6)
		for len(l) < n {
			f := rows[next(len(rows))].f
			if f.Tail && len(l)+1 < n {
				continue
			}
			l = append(l, f)
		}
		b, err := Join(l...)
		if err != api.OK {
			t.Fatalf("P4.6: Join(%+v): %d", l, err)
		}
		got, at, err := Parse(b)
		if !sameAll(got, merged(l)) || at != len(b) || err != api.OK {
			t.Fatalf("P4.10: Parse of Join(%+v) is %+v, %d, %d", l, got, at, err)
		}
	}
}

func TestParseKeepsNothing(t *testing.T) {
	b := []byte("\x06\x00\x02ab\x06\x02\x02cd\x02\x05\x00\x00\x01\x02\x09\x00\x00\x01")
	before := string(b)
	l, _, err := Parse(b)
	if err != api.OK || len(l) != 4 {
		t.Fatalf("P4.4: Parse(%x) = %+v, %d", b, l, err)
	}
	d, r := l[0].Data[:cap(l[0].Data)], l[2].Runs[:cap(l[2].Runs)]
	for i := range d {
		d[i] = '!'
	}
	for i := range r {
		r[i] = api.Run{Lo: 7, Hi: 7}
	}
	if string(b) != before || string(l[1].Data) != "cd" || l[3].Runs[0] != (api.Run{Lo: 8, Hi: 9}) {
		t.Errorf("R3: behind one frame's lists: %x, %+v", b, l)
	}
}
