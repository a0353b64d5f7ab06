package streams

import (
	"fmt"
	"math"
	"math/rand/v2"
	"reflect"
	"slices"
	"testing"

	"portage/api"
)

// A play holds an end's streams against the second reading, call by call.
type play struct {
	t    *testing.T
	r    *rand.Rand
	s    *Streams
	b    *book
	went []api.Frame // what Next told
	log  []string
}

func newPlay(t *testing.T, seed uint64) *play {
	r := rand.New(rand.NewPCG(seed, 18))
	window := func() int64 { return []int64{0, 1, 2, 5, 9, 20, 40}[r.IntN(7)] }
	number := func() int64 { return []int64{0, 1, 2, 3, 4, 32}[r.IntN(6)] }
	params := func() api.Params {
		return api.Params{Data: 3 * window(), StreamOwn: window(), StreamHis: window(), StreamUni: window(), Bidi: number(), Uni: number()}
	}
	role, own, capacity := r.IntN(2), params(), 1+r.IntN(30)
	p := &play{t: t, r: r, s: made(t, role, own, capacity), b: newBook(role, own, capacity)}
	peer := params()
	peer.Bidi, peer.Uni = peer.Bidi+r.Int64N(2), peer.Uni+r.Int64N(2)
	if r.IntN(5) > 0 {
		p.call("Peer", func() string { p.s.Peer(peer); return "" }, func() string { p.b.peer(peer); return "" })
	}
	return p
}

// call does one thing with both, and holds all that they tell against each other.
func (p *play) call(say string, real, model func() string) {
	p.t.Helper()
	p.log = append(p.log, say)
	got, want := real(), model()
	if got != want {
		p.fail("%s: %s, want %s", say, got, want)
	}
	ids := []int64{}
	for _, page := range p.b.rising() {
		ids = append(ids, page.id)
	}
	if l := p.s.IDs(); !slices.Equal(l, ids) {
		p.fail("%s: IDs() = %d, want %d", say, l, ids)
	}
	for _, id := range ids {
		v, err := p.s.View(id)
		w, _ := p.b.view(id)
		if err != api.OK || !reflect.DeepEqual(plainView(v), plainView(w)) {
			p.fail("%s: View(%d) =\n%+v, want\n%+v", say, id, v, w)
		}
	}
	out, in := p.s.Credit()
	if out != p.b.out || in != p.b.in {
		p.fail("%s: Credit() = %+v, %+v, want %+v, %+v", say, out, in, p.b.out, p.b.in)
	}
	if n := p.s.Held(); n != p.b.held() {
		p.fail("%s: Held() = %d, want %d", say, n, p.b.held())
	}
	if got, want := p.s.Waits(), len(p.b.waiting()) > 0 || p.b.turn() != nil; got != want {
		p.fail("%s: Waits() = %v", say, got)
	}
}

func (p *play) fail(format string, args ...any) {
	p.t.Helper()
	for _, line := range p.log[max(len(p.log)-30, 0):] {
		p.t.Log(line)
	}
	p.t.Fatalf(format, args...)
}

// id picks a stream: mostly one that is open.
func (p *play) id() int64 {
	if l := p.b.rising(); len(l) > 0 && p.r.IntN(10) > 0 {
		return l[p.r.IntN(len(l))].id
	}
	return []int64{p.r.Int64N(24), p.r.Int64N(200), -1 - p.r.Int64N(9), api.MaxNumber - p.r.Int64N(9)}[p.r.IntN(4)]
}

func (p *play) code() int64 {
	return []int64{0, 1, 77, api.MaxNumber, p.r.Int64N(1000), p.r.Int64N(1000), -1, api.MaxNumber + 1}[p.r.IntN(8)]
}

func (p *play) text() []byte {
	text := make([]byte, p.r.IntN(12)*p.r.IntN(2)+p.r.IntN(4))
	for i := range text {
		text[i] = byte('a' + p.r.IntN(26))
	}
	return text
}

// frame makes a frame that may come: most of them may, some are beyond a limit or may not be at all.
func (p *play) frame() api.Frame {
	r, id := p.r, p.id()
	if r.IntN(3) == 0 {
		// The next one of theirs, or one behind it.
		uni := r.IntN(2) == 0
		id = 4*(int64(len(p.b.of(false, uni)))+r.Int64N(2)*r.Int64N(3)) + int64(1-p.b.role) + 2*int64(pick(uni))
	}
	high, final, limit := int64(0), int64(-1), int64(20)
	if page := p.b.page(id); page != nil && page.receives {
		high, final, limit = page.high, page.final, page.limit
	}
	switch r.IntN(12) {
	case 0:
		return reset(id, max(p.code(), 0)&api.MaxNumber, []int64{high, max(final, high), limit, limit + 1, high + r.Int64N(5)}[r.IntN(5)])
	case 1:
		return stop(id, max(p.code(), 0)&api.MaxNumber)
	case 2:
		return maxData(max(p.b.out.Limit-3, 0) + r.Int64N(15))
	case 3:
		out := int64(0)
		if page := p.b.page(id); page != nil {
			out = page.out.Limit
		}
		return maxStreamData(id, max(out-3, 0)+r.Int64N(12))
	case 4:
		uni := r.IntN(2) == 0
		return maxStreams(uni, max(p.b.most[pick(uni)]-1, 0)+r.Int64N(3))
	case 5:
		return []api.Frame{dataBlocked(r.Int64N(99)), streamDataBlocked(id, r.Int64N(99)), streamsBlocked(r.IntN(2) == 0, r.Int64N(9)),
			{Kind: api.KPing}, {Kind: 99}, {Kind: api.KStream, Offset: -1}, {Kind: api.KDone}}[r.IntN(7)]
	}
	f := api.Frame{Kind: api.KStream, Stream: id, Data: p.text(), Fin: r.IntN(8) == 0, Tail: r.IntN(9) == 0}
	switch r.IntN(5) {
	case 0:
		f.Offset = max(high-r.Int64N(6), 0)
	case 1:
		f.Offset = r.Int64N(high + 4)
	default:
		f.Offset = high
	}
	if end := f.Offset + int64(len(f.Data)); end > limit && r.IntN(4) > 0 {
		f.Offset = min(f.Offset, limit)
		f.Data = f.Data[:limit-f.Offset]
	}
	if final >= 0 && r.IntN(3) > 0 {
		f.Offset = min(f.Offset, final)
		f.Data = f.Data[:min(int64(len(f.Data)), final-f.Offset)]
		f.Fin = f.Offset+int64(len(f.Data)) == final && r.IntN(2) == 0
	}
	return f
}

// sent picks a frame that was told, as it is kept; some are turned a little.
func (p *play) sent() api.Frame {
	r := p.r
	if len(p.went) == 0 || r.IntN(12) == 0 {
		f := []api.Frame{went(p.id(), r.Int64N(9)-3, r.Int64N(9)-2, r.IntN(3) == 0), reset(p.id(), 0, 0), stop(p.id(), 0), maxData(r.Int64N(50)), maxStreamData(p.id(), r.Int64N(50)),
			maxStreams(r.IntN(2) == 0, r.Int64N(6)-1), dataBlocked(r.Int64N(50)), streamDataBlocked(p.id(), r.Int64N(20)), streamsBlocked(r.IntN(2) == 0, r.Int64N(6)-1), {Kind: api.KPing}}
		return f[r.IntN(len(f))]
	}
	from := 0
	if r.IntN(3) > 0 {
		from = max(len(p.went)-8, 0)
	}
	return kept(p.went[from+r.IntN(len(p.went)-from)])
}

// err plays a call that answers an error alone.
func (p *play) err(say string, real, model func() api.Errno) {
	p.t.Helper()
	p.call(say, func() string { return fmt.Sprint(real()) }, func() string { return fmt.Sprint(model()) })
}

// use plays a call of the application.
func (p *play) use() {
	r, id, code := p.r, p.id(), p.code()
	switch r.IntN(14) {
	case 0, 1:
		uni := r.IntN(2) == 0
		p.call(fmt.Sprint("Open ", uni), func() string { return fmt.Sprint(p.s.Open(uni)) }, func() string { return fmt.Sprint(p.b.open(uni)) })
	case 2:
		p.call("Accept", func() string { return fmt.Sprint(p.s.Accept()) }, func() string { return fmt.Sprint(p.b.accept()) })
	case 3, 4, 5:
		text := p.text()
		p.err(fmt.Sprintf("Write %d %q", id, text), func() api.Errno { return p.s.Write(id, text) }, func() api.Errno { return p.b.write(id, text) })
	case 6:
		p.err(fmt.Sprint("Fin ", id), func() api.Errno { return p.s.Fin(id) }, func() api.Errno { return p.b.end(id) })
	case 7:
		p.err(fmt.Sprint("Reset ", id, code), func() api.Errno { return p.s.Reset(id, code) }, func() api.Errno { return p.b.breakOff(id, code) })
	case 8:
		p.err(fmt.Sprint("Stop ", id, code), func() api.Errno { return p.s.Stop(id, code) }, func() api.Errno { return p.b.stop(id, code) })
	case 9:
		urgency := []int{0, 1, 2, 3, 3, 7, 8, -1}[r.IntN(8)]
		p.err(fmt.Sprint("Rank ", id, urgency), func() api.Errno { return p.s.Rank(id, urgency) }, func() api.Errno { return p.b.rank(id, urgency) })
	default:
		most := []int{0, 1, 2, 5, 99, 99, 99, math.MaxInt, -1, math.MinInt}[r.IntN(10)]
		tell := func(text []byte, end bool, err api.Errno) string { return fmt.Sprintf("%q %v %d", text, end, err) }
		p.call(fmt.Sprint("Read ", id, most), func() string { return tell(p.s.Read(id, most)) }, func() string { return tell(p.b.readOf(id, most)) })
	}
}

// step plays one call.
func (p *play) step() {
	r := p.r
	switch r.IntN(10) {
	case 0, 1, 2:
		p.use()
	case 3, 4:
		f := p.frame()
		p.call(fmt.Sprintf("Take %+v", f), func() string { return fmt.Sprint(p.s.Take(f)) }, func() string { return fmt.Sprint(p.b.take(f)) })
	case 5, 6, 7:
		room := []int{1200, 1200, 1200, r.IntN(8), r.IntN(20), math.MaxInt}[r.IntN(6)]
		tell := func(f api.Frame, is bool) string {
			return fmt.Sprintf("%d %d %d %q %d %v %v %d %v %d, %v", f.Kind, f.Stream, f.Offset, f.Data, f.Size, f.Fin, f.Tail, f.Limit, f.Uni, f.Code, is)
		}
		p.call(fmt.Sprint("Next ", room), func() string {
			f, is := p.s.Next(room)
			if is {
				p.went = append(p.went, f)
			}
			return tell(f, is)
		}, func() string { return tell(p.b.next(room)) })
	case 8:
		f := p.sent()
		p.call(fmt.Sprintf("Acked %+v", f), func() string { p.s.Acked(f); return "" }, func() string { p.b.acked(f); return "" })
	case 9:
		f := p.sent()
		p.call(fmt.Sprintf("Lost %+v", f), func() string { p.s.Lost(f); return "" }, func() string { p.b.lost(f); return "" })
	}
	if r.IntN(80) == 0 {
		q := sized(r.Int64N(60), r.Int64N(30), r.Int64N(5))
		p.call(fmt.Sprintf("Peer %+v", q), func() string { p.s.Peer(q); return "" }, func() string { p.b.peer(q); return "" })
	}
}

// P18.1 to P18.16, of calls in any order, held against the second reading.
func TestReading(t *testing.T) {
	for seed := range uint64(700) {
		p := newPlay(t, seed)
		for range 250 {
			p.step()
		}
	}
}
