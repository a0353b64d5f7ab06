package streams

import (
	"fmt"
	"math"
	"reflect"
	"slices"
	"strings"
	"testing"

	"portage/api"
	"portage/frame"
)

// Numbers that a code, and most other numbers, may not be.
var wrong = []int64{math.MinInt64, math.MinInt64 + 1, -api.MaxNumber, -2, -1, api.MaxNumber + 1, api.MaxNumber + 2, math.MaxInt64 - 1, math.MaxInt64}

// sized gives limits: of the connection, of each stream, of how many streams.
func sized(data, stream, number int64) api.Params {
	return api.Params{Data: data, StreamOwn: stream, StreamHis: stream, StreamUni: stream, Bidi: number, Uni: number}
}

// small are the limits of the chapter's examples.
func small() api.Params { return sized(100, 20, 1) }

// ample are limits that nothing comes to.
func ample() api.Params { return sized(1000, 100, 4) }

func made(t *testing.T, role int, own api.Params, capacity int) *Streams {
	t.Helper()
	s, err := New(role, own, capacity)
	if s == nil || err != api.OK {
		t.Fatalf("P18.1: New(%d, %+v, %d) = %v, %d", role, own, capacity, s, err)
	}
	return s
}

// met is an end that was told the other one's limits.
func met(t *testing.T, role int, own, peer api.Params) *Streams {
	t.Helper()
	s := made(t, role, own, 100)
	s.Peer(peer)
	return s
}

// dump tells all that there is of a value, to its depth.
func dump(v reflect.Value) string {
	switch v.Kind() {
	case reflect.Pointer:
		if v.IsNil() {
			return "nil"
		}
		return "&" + dump(v.Elem())
	case reflect.Struct:
		l := []string{}
		for i := range v.NumField() {
			l = append(l, v.Type().Field(i).Name+":"+dump(v.Field(i)))
		}
		return "{" + strings.Join(l, " ") + "}"
	case reflect.Slice, reflect.Array:
		l := []string{}
		for i := range v.Len() {
			l = append(l, dump(v.Index(i)))
		}
		return "[" + strings.Join(l, " ") + "]"
	case reflect.Map:
		l := []string{}
		for _, k := range v.MapKeys() {
			l = append(l, dump(k)+":"+dump(v.MapIndex(k)))
		}
		slices.Sort(l)
		return "map[" + strings.Join(l, " ") + "]"
	}
	return fmt.Sprint(v)
}

// picture tells all that is known of an end's streams.
func picture(s *Streams) string { return dump(reflect.ValueOf(s)) }

// differs tells where two texts begin to differ.
func differs(a, b string) string {
	n := 0
	for n < len(a) && n < len(b) && a[n] == b[n] {
		n++
	}
	part := func(text string) string { return text[max(n-60, 0):min(n+60, len(text))] }
	return fmt.Sprintf("%q, now %q", part(a), part(b))
}

// unchanged does something that is to change nothing.
func unchanged(t *testing.T, say string, s *Streams, do func()) {
	t.Helper()
	ahead := picture(s)
	do()
	if behind := picture(s); behind != ahead {
		t.Errorf("%s: it has changed: %s", say, differs(ahead, behind))
	}
}

// is holds an answer against the one that is wanted; with an error nothing may have changed.
func is(t *testing.T, say string, s *Streams, want api.Errno, do func() api.Errno) {
	t.Helper()
	ahead := picture(s)
	if got := do(); got != want {
		t.Errorf("%s: %d, want %d", say, got, want)
	}
	if want != api.OK && picture(s) != ahead {
		t.Errorf("%s: refused, and it has changed: %s", say, differs(ahead, picture(s)))
	}
}

func opens(t *testing.T, say string, s *Streams, uni bool, want int64) {
	t.Helper()
	if id, err := s.Open(uni); id != want || err != api.OK {
		t.Errorf("%s: Open(%v) = %d, %d, want %d", say, uni, id, err, want)
	}
}

// full asks for a stream that may not be opened.
func full(t *testing.T, say string, s *Streams, uni bool) {
	t.Helper()
	if id, err := s.Open(uni); id != 0 || err != api.ErrStreamsLimit {
		t.Errorf("%s: Open(%v) = %d, %d, want ErrStreamsLimit", say, uni, id, err)
	}
}

// accepts asks for streams, and behind them for none.
func accepts(t *testing.T, say string, s *Streams, want ...int64) {
	t.Helper()
	for _, id := range want {
		if got, is := s.Accept(); got != id || !is {
			t.Errorf("%s: Accept() = %d, %v, want %d", say, got, is, id)
		}
	}
	unchanged(t, say, s, func() {
		if got, is := s.Accept(); got != 0 || is {
			t.Errorf("%s: Accept() = %d, %v, want none", say, got, is)
		}
	})
}

func writes(t *testing.T, say string, s *Streams, id int64, text string) {
	t.Helper()
	if err := s.Write(id, []byte(text)); err != api.OK {
		t.Errorf("%s: Write(%d, %q) = %d", say, id, text, err)
	}
}

func ends(t *testing.T, say string, s *Streams, id int64) {
	t.Helper()
	if err := s.Fin(id); err != api.OK {
		t.Errorf("%s: Fin(%d) = %d", say, id, err)
	}
}

// reads asks for bytes; a . behind them: with true.
func reads(t *testing.T, say string, s *Streams, id int64, most int, want string) {
	t.Helper()
	text, end := strings.CutSuffix(want, ".")
	if b, is, err := s.Read(id, most); string(b) != text || is != end || err != api.OK {
		t.Errorf("%s: Read(%d, %d) = %q, %v, %d, want %q", say, id, most, b, is, err, want)
	}
}

// notRead asks for bytes where there is no stream to read from, or it was reset.
func notRead(t *testing.T, say string, s *Streams, id int64, want api.Errno) {
	t.Helper()
	for _, most := range []int{9, 0, -1, math.MaxInt, math.MinInt} {
		if b, is, err := s.Read(id, most); len(b) != 0 || is || err != want {
			t.Errorf("%s: Read(%d, %d) = %q, %v, %d, want %d", say, id, most, b, is, err, want)
		}
	}
}

// takes hands frames in, all of which may come.
func takes(t *testing.T, say string, s *Streams, l ...api.Frame) {
	t.Helper()
	for _, f := range l {
		if code := s.Take(f); code != api.CodeNone {
			t.Errorf("%s: Take(%+v) = %d", say, f, code)
		}
	}
}

// faults hands a frame in that may not come: nothing may change (no stream that it opens is new).
func faults(t *testing.T, say string, s *Streams, f api.Frame, want api.Code) {
	t.Helper()
	unchanged(t, fmt.Sprintf("%s: Take(%+v)", say, f), s, func() {
		if code := s.Take(f); code != want {
			t.Errorf("%s: Take(%+v) = %d, want %d", say, f, code, want)
		}
	})
}

// same tells whether two frames are the same; a list without elements may be nil.
func same(a, b api.Frame) bool {
	if len(a.Data) != len(b.Data) || len(a.Runs) != 0 || string(a.Data) != string(b.Data) {
		return false
	}
	a.Data, b.Data, a.Runs, b.Runs = nil, nil, nil, nil
	return reflect.DeepEqual(a, b)
}

// tells asks for the next frame, in a room into which all go; and, ahead of that, in one that is a byte too small.
func tells(t *testing.T, say string, s *Streams, want api.Frame) api.Frame {
	t.Helper()
	return tellsIn(t, say, s, 1200, want)
}

func tellsIn(t *testing.T, say string, s *Streams, room int, want api.Frame) api.Frame {
	t.Helper()
	unchanged(t, say+": Waits", s, func() {
		if !s.Waits() {
			t.Errorf("%s: Waits() = false, want a frame %+v", say, want)
		}
	})
	least := want
	if len(least.Data) > 0 {
		least.Data = least.Data[:1]
	}
	size, err := frame.Size(least)
	if err != api.OK {
		t.Fatalf("%s: there is no frame %+v", say, want)
	}
	for _, less := range []int{size - 1, 0, -1, math.MinInt} {
		unchanged(t, say+": no room", s, func() {
			if f, is := s.Next(less); is || !same(f, api.Frame{}) {
				t.Errorf("%s: Next(%d) = %+v, %v: it has no room", say, less, f, is)
			}
		})
	}
	f, is := s.Next(room)
	if !is || !same(f, want) {
		t.Errorf("%s: Next(%d) = %+v, %v, want %+v", say, room, f, is, want)
	}
	return f
}

// quiet holds an end to saying nothing.
func quiet(t *testing.T, say string, s *Streams) {
	t.Helper()
	unchanged(t, say, s, func() {
		if s.Waits() {
			t.Errorf("%s: Waits() = true", say)
		}
		for _, room := range []int{1200, math.MaxInt, 0, math.MinInt} {
			if f, is := s.Next(room); is || !same(f, api.Frame{}) {
				t.Errorf("%s: Next(%d) = %+v, %v, want nothing", say, room, f, is)
			}
		}
	})
}

// all asks for frames till there is none.
func all(s *Streams) []api.Frame {
	var l []api.Frame
	for f, is := s.Next(1200); is; f, is = s.Next(1200) {
		l = append(l, f)
	}
	return l
}

// kept is what is kept of a frame.
func kept(f api.Frame) api.Frame {
	k, _ := frame.Keep(f)
	return k
}

func view(t *testing.T, say string, s *Streams, id int64) api.StreamView {
	t.Helper()
	v, err := s.View(id)
	if err != api.OK || v.ID != id {
		t.Errorf("%s: View(%d) = %+v, %d", say, id, v, err)
	}
	return v
}

func open(t *testing.T, say string, s *Streams, want ...int64) {
	t.Helper()
	if l := s.IDs(); !slices.Equal(l, want) {
		t.Errorf("%s: IDs() = %d, want %d", say, l, want)
	}
}

func held(t *testing.T, say string, s *Streams, want int64) {
	t.Helper()
	if n := s.Held(); n != want {
		t.Errorf("%s: Held() = %d, want %d", say, n, want)
	}
}

// outs and ins look at the connection's credit.
func outs(t *testing.T, say string, s *Streams, limit, used, told int64) {
	t.Helper()
	if v, _ := s.Credit(); v != (api.OutView{Limit: limit, Used: used, Told: told}) {
		t.Errorf("%s: Credit(): out %+v, want %d, %d, %d", say, v, limit, used, told)
	}
}

func ins(t *testing.T, say string, s *Streams, limit, taken, consumed int64) {
	t.Helper()
	if _, v := s.Credit(); v.Limit != limit || v.Taken != taken || v.Consumed != consumed {
		t.Errorf("%s: Credit(): in %+v, want %d, %d, %d", say, v, limit, taken, consumed)
	}
}

// Frames.

func piece(id, off int64, text string) api.Frame {
	text, fin := strings.CutSuffix(text, ".")
	return api.Frame{Kind: api.KStream, Stream: id, Offset: off, Data: []byte(text), Fin: fin}
}

func reset(id, code, size int64) api.Frame {
	return api.Frame{Kind: api.KReset, Stream: id, Code: code, Size: size}
}

func stop(id, code int64) api.Frame { return api.Frame{Kind: api.KStop, Stream: id, Code: code} }

func maxData(limit int64) api.Frame { return api.Frame{Kind: api.KMaxData, Limit: limit} }

func maxStreamData(id, limit int64) api.Frame {
	return api.Frame{Kind: api.KMaxStreamData, Stream: id, Limit: limit}
}

func maxStreams(uni bool, limit int64) api.Frame {
	return api.Frame{Kind: api.KMaxStreams, Uni: uni, Limit: limit}
}

func dataBlocked(limit int64) api.Frame { return api.Frame{Kind: api.KDataBlocked, Limit: limit} }

func streamDataBlocked(id, limit int64) api.Frame {
	return api.Frame{Kind: api.KStreamDataBlocked, Stream: id, Limit: limit}
}

func streamsBlocked(uni bool, limit int64) api.Frame {
	return api.Frame{Kind: api.KStreamsBlocked, Uni: uni, Limit: limit}
}

// plainView is a view in which lists without elements are nil.
func plainView(v api.StreamView) api.StreamView {
	for _, l := range []*[]api.Run{&v.Send.Acked, &v.Send.Lost, &v.Recv.Runs} {
		if len(*l) == 0 {
			*l = nil
		}
	}
	return v
}

// sameView holds two views against one another.
func sameView(t *testing.T, say string, got, want api.StreamView) {
	t.Helper()
	if !reflect.DeepEqual(plainView(got), plainView(want)) {
		t.Errorf("%s: the view is\n%+v, want\n%+v", say, got, want)
	}
}
