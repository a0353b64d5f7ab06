package streams

import (
	"bytes"
	"math/rand/v2"
	"slices"
	"testing"

	"portage/api"
	"portage/frame"
)

// A letter is a frame that an end told, on its way.
type letter struct {
	from int
	f    api.Frame
	came bool
	said bool // it was said to be acknowledged, or lost
}

// A way is one direction of a stream.
type way struct {
	from int
	id   int64
}

// A fate is what is known of a way at both ends.
type fate struct {
	written, read  []byte
	fin, end       bool // told by the one who writes; by the one who reads
	reset, stopped bool
	over           bool // ErrOver was told
}

// A pair is a client and a server, and what lies between them.
type pair struct {
	t       *testing.T
	r       *rand.Rand
	ends    [2]*Streams
	own     [2]api.Params
	letters []*letter
	ways    map[way]*fate
}

const pairCapacity = 25

func newPair(t *testing.T, r *rand.Rand, own [2]api.Params) *pair {
	t.Helper()
	p := &pair{t: t, r: r, own: own, ways: map[way]*fate{}}
	for i := range p.ends {
		p.ends[i] = made(t, i, own[i], pairCapacity)
		p.ends[i].Peer(own[1-i])
	}
	return p
}

func (p *pair) way(from int, id int64) *fate {
	w := way{from, id}
	if p.ways[w] == nil {
		p.ways[w] = &fate{}
	}
	return p.ways[w]
}

// stream picks an open stream of an end; -1: there is none.
func (p *pair) stream(i int) int64 {
	l := p.ends[i].IDs()
	if len(l) == 0 {
		return -1
	}
	return l[p.r.IntN(len(l))]
}

func (p *pair) write(i int, id int64, text []byte) {
	if p.ends[i].Write(id, text) == api.OK {
		w := p.way(i, id)
		w.written = append(w.written, text...)
	}
}

func (p *pair) fin(i int, id int64) {
	if p.ends[i].Fin(id) == api.OK {
		p.way(i, id).fin = true
	}
}

// read holds what is read to what was written (P18.18).
func (p *pair) read(i int, id int64, most int) bool {
	p.t.Helper()
	text, end, err := p.ends[i].Read(id, most)
	w := p.way(1-i, id)
	if err == api.ErrOver {
		fresh := !w.over
		w.over = true
		if !w.reset {
			p.t.Fatalf("P18.18: stream %d tells a reset that nobody asked for", id)
		}
		return fresh
	}
	if err != api.OK {
		return false
	}
	w.read = append(w.read, text...)
	if !bytes.HasPrefix(w.written, w.read) {
		p.t.Fatalf("P18.18: of stream %d was read %q, written %q", id, w.read, w.written)
	}
	if end && (!w.fin || len(w.read) != len(w.written)) {
		p.t.Fatalf("P18.18: of stream %d the end is told behind %q of %q, Fin %v", id, w.read, w.written, w.fin)
	}
	fresh := len(text) > 0 || end && !w.end
	w.end = w.end || end
	return fresh
}

// tell lets an end tell a frame.
func (p *pair) tell(i, room int) *letter {
	p.t.Helper()
	waits := p.ends[i].Waits()
	f, is := p.ends[i].Next(room)
	if room >= 1200 && is != waits {
		p.t.Fatalf("P18.13: Waits() = %v, and Next tells %v", waits, is)
	}
	if !is {
		return nil
	}
	if n, err := frame.Size(f); err != api.OK || n > room {
		p.t.Fatalf("P18.12: Next(%d) tells %+v: %d, %d", room, f, n, err)
	}
	l := &letter{from: i, f: f}
	p.letters = append(p.letters, l)
	return l
}

// come lets a letter come.
func (p *pair) come(l *letter) {
	p.t.Helper()
	if code := p.ends[1-l.from].Take(l.f); code != api.CodeNone {
		p.t.Fatalf("P18.18: Take(%+v) = %d", l.f, code)
	}
	if l.f.Kind == api.KStop && p.ends[1-l.from].sendingOf(l.f.Stream) != nil && p.ends[1-l.from].sendingOf(l.f.Stream).reset.asked() {
		p.way(1-l.from, l.f.Stream).reset = true
	}
	l.came = true
}

func (p *pair) ack(l *letter) {
	if l.came {
		p.ends[l.from].Acked(kept(l.f))
		l.said = true
	}
}

func (p *pair) lose(l *letter) {
	p.ends[l.from].Lost(kept(l.f))
	l.said = true
}

func (p *pair) text() []byte {
	text := make([]byte, p.r.IntN(14))
	for i := range text {
		text[i] = byte('a' + p.r.IntN(26))
	}
	return text
}

// act lets an application do something.
func (p *pair) act() {
	p.t.Helper()
	r, i := p.r, p.r.IntN(2)
	s, id := p.ends[i], p.stream(i)
	switch r.IntN(24) {
	case 0, 1, 2:
		s.Open(r.IntN(2) == 0)
	case 3:
		s.Accept()
	case 4, 5, 6, 7, 8, 9:
		p.write(i, id, p.text())
	case 10, 11:
		p.fin(i, id)
	case 12:
		if r.IntN(4) == 0 && s.Reset(id, r.Int64N(99)) == api.OK {
			p.way(i, id).reset = true
		}
	case 13:
		if r.IntN(4) == 0 && s.Stop(id, r.Int64N(99)) == api.OK {
			p.way(1-i, id).stopped = true
		}
	case 14:
		s.Rank(id, r.IntN(8))
	default:
		p.read(i, id, r.IntN(20))
	}
}

// road does something with letters.
func (p *pair) road() {
	p.t.Helper()
	r := p.r
	if l := p.tell(r.IntN(2), []int{1200, 1200, r.IntN(12), r.IntN(30)}[r.IntN(4)]); l != nil && r.IntN(3) > 0 {
		p.come(l)
	}
	if len(p.letters) == 0 {
		return
	}
	l := p.letters[r.IntN(len(p.letters))]
	if r.IntN(2) == 0 {
		l = p.letters[max(len(p.letters)-1-r.IntN(10), 0)]
	}
	switch r.IntN(6) {
	case 0, 1:
		p.come(l)
	case 2, 3, 4:
		p.ack(l)
	case 5:
		p.lose(l)
	}
}

// bounds is P18.20.
func (p *pair) bounds() {
	p.t.Helper()
	for i, s := range p.ends {
		checkBounds(p.t, s, p.own[i], pairCapacity)
	}
}

func checkBounds(t *testing.T, s *Streams, own api.Params, capacity int64) {
	t.Helper()
	var ours, theirs [2]int64
	bound, received := int64(0), int64(0)
	for _, id := range s.IDs() {
		v, _ := s.View(id)
		if id%2 == int64(s.role) {
			ours[id/2%2]++
		} else {
			theirs[id/2%2]++
		}
		if n := v.Send.Written - v.Send.Base; n > capacity {
			t.Fatalf("P18.20: stream %d: its sending part holds %d", id, n)
		}
		if v.Recv.Held > v.In.Window {
			t.Fatalf("P18.20: stream %d: its receiving part holds %d", id, v.Recv.Held)
		}
		if s.sends(id) {
			bound += capacity
		}
		bound += v.In.Window
		received += v.Recv.Held
	}
	if theirs[0] > own.Bidi || theirs[1] > own.Uni || max(ours[0], ours[1]) > api.MaxStreams {
		t.Fatalf("P18.20: of theirs %d are open, of ours %d: %+v", theirs, ours, own)
	}
	if n := s.Held(); n > bound || received > own.Data {
		t.Fatalf("P18.20: %d are held, of them %d were received; Data is %d", n, received, own.Data)
	}
}

// settle is P18.19: what has not come is lost, from now on nothing is, and all is read.
func (p *pair) settle() {
	p.t.Helper()
	for _, l := range p.letters {
		if l.came {
			p.ack(l)
		} else {
			p.lose(l)
		}
	}
	p.letters = nil
	for round := 0; ; round++ {
		if round > 2000 {
			p.t.Fatalf("P18.19: they don't come to rest")
		}
		busy := false
		for i, s := range p.ends {
			for _, id := range s.IDs() {
				for p.read(i, id, 7) {
					busy = true
				}
			}
			if l := p.tell(i, 1200); l != nil {
				p.come(l)
				p.ack(l)
				busy = true
			}
		}
		if !busy {
			break
		}
	}
	for _, s := range p.ends {
		quiet(p.t, "P18.19", s)
	}
}

// delivered holds all ways to P18.19, and tells how many have come to their end.
func (p *pair) delivered() int {
	p.t.Helper()
	n := 0
	for w, x := range p.ways {
		if !x.fin || x.reset || x.stopped {
			continue
		}
		to := p.own[1-w.from]
		window := to.StreamUni
		switch {
		case w.id%4 < 2 && w.id%2 == int64(w.from):
			window = to.StreamHis
		case w.id%4 < 2:
			window = to.StreamOwn
		}
		if len(x.written) > 0 && (window == 0 || to.Data == 0) {
			continue
		}
		n++
		if !x.end || len(x.read) != len(x.written) {
			p.t.Fatalf("P18.19: of stream %d of end %d was read %q of %q, its end %v", w.id, w.from, x.read, x.written, x.end)
		}
		if v, err := p.ends[w.from].View(w.id); err == api.OK && !v.Send.Done {
			p.t.Fatalf("P18.19: stream %d isn't done: %+v", w.id, v)
		}
	}
	return n
}

// P18.18 to P18.20, of two ends that are used anyhow, on any road.
func TestTwoEnds(t *testing.T) {
	total, ended := 0, 0
	for seed := range uint64(300) {
		r := rand.New(rand.NewPCG(seed, 181))
		window := func() int64 { return []int64{0, 1, 2, 3, 5, 8, 20, 100}[min(r.IntN(12), 7)] }
		params := func() api.Params {
			return api.Params{Data: 2 * window(), StreamOwn: window(), StreamHis: window(), StreamUni: window(), Bidi: r.Int64N(5), Uni: r.Int64N(5)}
		}
		p := newPair(t, r, [2]api.Params{params(), params()})
		for range 400 {
			p.act()
			p.road()
			p.road()
			if r.IntN(8) == 0 {
				p.bounds()
			}
			if r.IntN(300) == 0 {
				p.settle()
			}
		}
		p.settle()
		p.bounds()
		total += len(p.ways)
		ended += p.delivered()
	}
	if ended < 500 {
		t.Errorf("of %d ways only %d came to their end: the test tells little", total, ended)
	}
}

// With a window or a Data of 0 a stream without a byte comes all the same (P18.19).
func TestTwoEndsWithoutWindows(t *testing.T) {
	for _, own := range []api.Params{sized(0, 0, 2), sized(0, 10, 2), sized(10, 0, 2)} {
		p := newPair(t, rand.New(rand.NewPCG(1, 1)), [2]api.Params{own, own})
		for i, s := range p.ends {
			for _, uni := range []bool{false, true} {
				id, _ := s.Open(uni)
				p.fin(i, id)
				other, _ := s.Open(uni)
				p.write(i, other, []byte("a"))
				p.fin(i, other)
			}
		}
		p.settle()
		if n := p.delivered(); n != 4 {
			t.Errorf("P18.19: %d ways came to their end, want 4", n)
		}
		for w, x := range p.ways {
			if len(x.written) > 0 && (len(x.read) > 0 || x.end) {
				t.Errorf("P18.18: stream %d: %+v", w.id, x)
			}
		}
	}
}

// A long way: many streams behind one another, over limits that are small, each byte lost once.
func TestManyStreams(t *testing.T) {
	own := api.Params{Data: 6, StreamOwn: 3, StreamHis: 4, StreamUni: 5, Bidi: 2, Uni: 1}
	p := newPair(t, rand.New(rand.NewPCG(7, 7)), [2]api.Params{own, own})
	for n := range 60 {
		for i, s := range p.ends {
			id, err := s.Open(n%3 == 0)
			if err != api.OK {
				t.Fatalf("P18.3: %d, of stream %d", err, n)
			}
			p.write(i, id, []byte("abcdefghij"))
			p.fin(i, id)
			// The other end answers on what it has.
			for {
				id, is := p.ends[1-i].Accept()
				if !is {
					break
				}
				p.write(1-i, id, []byte("klm"))
				p.fin(1-i, id)
			}
			for range 5 {
				if l := p.tell(i, 6); l != nil {
					p.lose(l)
				}
			}
			p.settle()
			for id, is := p.ends[1-i].Accept(); is; id, is = p.ends[1-i].Accept() {
				p.write(1-i, id, []byte("klm"))
				p.fin(1-i, id)
			}
			p.settle()
		}
		p.delivered()
	}
	for i, s := range p.ends {
		open(t, "Words: all have ended", s)
		held(t, "P18.16", s, 0)
		out, _ := s.Credit()
		_, in := p.ends[1-i].Credit()
		if out.Used == 0 || out.Used != in.Taken || in.Taken != in.Consumed || out.Limit != in.Limit {
			t.Errorf("P18.18: all was read: %+v, %+v", out, in)
		}
	}
}

// P18.20, whatever frames come.
func TestBounds(t *testing.T) {
	for seed := range uint64(100) {
		r := rand.New(rand.NewPCG(seed, 182))
		own := sized(r.Int64N(40), r.Int64N(20), r.Int64N(5))
		capacity := 1 + r.IntN(9)
		s := made(t, r.IntN(2), own, capacity)
		s.Peer(sized(20, 10, 40))
		for range 300 {
			id := r.Int64N(40)
			if r.IntN(4) == 0 {
				if l := s.IDs(); len(l) > 0 {
					id = l[r.IntN(len(l))]
				}
			}
			f := []api.Frame{
				{Kind: api.KStream, Stream: id, Offset: r.Int64N(25), Data: make([]byte, r.IntN(20)), Fin: r.IntN(5) == 0},
				reset(id, r.Int64N(9), r.Int64N(25)), stop(id, r.Int64N(9)), maxData(r.Int64N(99)), maxStreamData(id, r.Int64N(40)),
				maxStreams(r.IntN(2) == 0, r.Int64N(60)), dataBlocked(1), streamDataBlocked(id, 1), streamsBlocked(true, 1),
			}
			s.Take(f[min(r.IntN(len(f)+6), 20)%len(f)])
			s.Open(r.IntN(2) == 0)
			s.Write(id, make([]byte, r.IntN(12)))
			s.Read(id, r.IntN(12))
			if g, is := s.Next(1200); is && r.IntN(2) == 0 {
				s.Acked(kept(g))
			}
			checkBounds(t, s, own, int64(capacity))
		}
	}
}

// A stream of both ways, opened by either end, written, ended, read to the end and let go; the frames in order.
func TestPlainWay(t *testing.T) {
	a, b := met(t, api.Client, ample(), ample()), met(t, api.Server, ample(), ample())
	opens(t, "P18.3", a, false, 0)
	writes(t, "P18.5", a, 0, "question")
	ends(t, "P18.5", a, 0)
	f := tells(t, "P18.12", a, piece(0, 0, "question."))
	takes(t, "P18.10", b, f)
	a.Acked(kept(f))
	accepts(t, "P18.4", b, 0)
	reads(t, "P18.7", b, 0, 99, "question.")
	writes(t, "P18.5", b, 0, "answer")
	ends(t, "P18.5", b, 0)
	f = tells(t, "P18.12", b, piece(0, 0, "answer."))
	takes(t, "P18.10", a, f)
	reads(t, "P18.7", a, 0, 99, "answer.")
	open(t, "Words: ended", a)
	open(t, "Words: not acknowledged", b, 0)
	b.Acked(kept(f))
	open(t, "Words: ended", b)
	takes(t, "P18.10", a, tells(t, "P18.11, 5", b, maxStreams(false, 5)))
	for range 4 {
		if _, err := a.Open(false); err != api.OK {
			t.Errorf("P18.3: %d", err)
		}
	}
	full(t, "P18.3", a, false)
	if !slices.Equal(a.IDs(), []int64{4, 8, 12, 16}) {
		t.Errorf("P18.16: %d", a.IDs())
	}
	// Theirs and ours of one way, at the same time.
	opens(t, "P18.3", b, true, 3)
	opens(t, "P18.3", a, true, 2)
	writes(t, "P18.5", b, 3, "down")
	writes(t, "P18.5", a, 2, "up")
	takes(t, "P18.10", b, tells(t, "P18.11, 8", a, streamsBlocked(false, 5)))
	takes(t, "P18.10", b, tells(t, "P18.12", a, piece(2, 0, "up")))
	takes(t, "P18.10", a, tells(t, "P18.12", b, piece(3, 0, "down")))
	reads(t, "P18.7", a, 3, 99, "down")
	reads(t, "P18.7", b, 2, 99, "up")
}
