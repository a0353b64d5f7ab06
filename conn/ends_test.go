package conn

import (
	"bytes"
	"math/rand/v2"
	"slices"
	"testing"

	"portage/api"
)

// A flow is one direction of a stream: what was written there, and what was read at the other end.
type flow struct {
	wrote, read []byte
	fin, ended  bool
}

// A sim is two ends and a road between them, on which things befall datagrams as a random source says.
type sim struct {
	t      *testing.T
	r      *rand.Rand
	ends   [2]*Conn
	now    int64
	span   int64
	road   []gram
	bad    int // of a thousand datagrams so many are lost, put off, doubled, marked each
	flows  [2]map[int64]*flow
	flight [2]map[[2]int64]int64 // by space and number, as events tell
	beyond [2]int                // datagrams with a probe since the last expiry
}

func newSim(t *testing.T, r *rand.Rand, span int64, client, server api.Config) *sim {
	w := &sim{t: t, r: r, span: span}
	for role, c := range []api.Config{client, server} {
		w.ends[role] = made(t, c, role)
		w.flows[role] = map[int64]*flow{}
		w.flight[role] = map[[2]int64]int64{}
	}
	return w
}

// put has a datagram go over the road.
func (w *sim) put(from int, b []byte, mark int) {
	at := w.now + w.span
	hit := func() bool { return w.r.IntN(1000) < w.bad }
	if hit() {
		return
	}
	if hit() {
		at += w.r.Int64N(4*w.span + 1)
	}
	if hit() && mark == api.Capable {
		mark = api.Marked
	}
	if hit() {
		w.road = append(w.road, gram{1 - from, at + w.r.Int64N(w.span+1), b, mark})
	}
	w.road = append(w.road, gram{1 - from, at, b, mark})
}

// look takes in what events tell, and holds flight against it (C10).
func (w *sim) look(role int) {
	in := w.flight[role]
	for _, e := range w.ends[role].Events() {
		at := [2]int64{int64(e.Space), e.Number}
		switch e.Kind {
		case api.EvSent:
			in[at] = e.Size
		case api.EvAcked, api.EvLost, api.EvForgotten:
			delete(in, at)
		case api.EvDropped:
			for k := range in {
				if k[0] == int64(e.Space) {
					delete(in, k)
				}
			}
		case api.EvProbe:
			w.beyond[role] = 0
		}
	}
	sum := int64(0)
	for _, n := range in {
		sum += n
	}
	v := w.ends[role].View()
	if sum != v.Recovery.Window.Flight {
		w.t.Fatalf("C10: %d bytes in flight, the events tell %d", v.Recovery.Window.Flight, sum)
	}
	c := w.ends[role].end.config
	if v.Recovery.Window.Size < 2*int64(c.MTU) {
		w.t.Fatalf("C10: a window of %d", v.Recovery.Window.Size)
	}
	if bound := (64+c.Bidi)*int64(c.Capacity) + c.Data + 62976; v.Held > bound {
		w.t.Fatalf("C11: %d bytes are held, of %d", v.Held, bound)
	}
	if !v.Validated && v.Sent > 3*v.Got {
		w.t.Fatalf("C10: %d bytes sent, %d handed in", v.Sent, v.Got)
	}
}

// goes has an end send all that it may, and holds it to the discipline.
func (w *sim) goes(role int) {
	e := w.ends[role]
	for range 64 {
		ahead := e.View()
		b, mark, ok := e.Send(w.now)
		w.look(role)
		if !ok {
			return
		}
		v := e.View()
		window := v.Recovery.Window
		if grew := window.Flight > ahead.Recovery.Window.Flight; grew && window.Flight > window.Size {
			w.beyond[role]++
			if ahead.Credit == 0 || w.beyond[role] > 2 {
				w.t.Fatalf("C10: flight %d beyond the window %d, %d since the expiry", window.Flight, window.Size, w.beyond[role])
			}
		}
		if len(b) > e.end.config.MTU {
			w.t.Fatalf("C5: a datagram of %d bytes", len(b))
		}
		w.put(role, b, mark)
	}
}

// goOn lets time go on to what is next, or to the end of all.
func (w *sim) goOn(until int64) bool {
	at := int64(api.Never)
	for _, e := range w.ends {
		if d := e.Deadline(); d > w.now {
			at = min(at, d)
		}
	}
	for _, g := range w.road {
		at = min(at, g.at)
	}
	if at > until {
		w.now = until
		return false
	}
	w.now = max(w.now, at)
	w.due()
	return true
}

// due hands in what has arrived, and lets timers expire.
func (w *sim) due() {
	for i := 0; i < len(w.road); {
		g := w.road[i]
		if g.at > w.now {
			i++
			continue
		}
		w.road = slices.Delete(w.road, i, i+1)
		w.ends[g.to].Receive(w.now, g.b, g.mark)
		w.look(g.to)
	}
	for role, e := range w.ends {
		for i := 0; i < 8 && e.Deadline() <= w.now; i++ {
			e.Timeout(w.now)
			w.look(role)
		}
	}
}

// flow is what an end sends on a stream.
func (w *sim) flow(role int, id int64) *flow {
	if w.flows[role][id] == nil {
		w.flows[role][id] = &flow{}
	}
	return w.flows[role][id]
}

// acts has an application do something.
func (w *sim) acts(role int) {
	e := w.ends[role]
	switch w.r.IntN(5) {
	case 0:
		if id, err := e.Open(w.r.IntN(2) == 0); err == api.OK {
			w.flow(role, id)
			e.Rank(id, w.r.IntN(8))
		}
	case 1, 2:
		for _, id := range e.Streams() {
			f := w.flow(role, id)
			text := make([]byte, w.r.IntN(3000))
			for i := range text {
				text[i] = byte(w.r.Uint32())
			}
			if w.r.IntN(2) == 0 && e.Write(id, text) == api.OK {
				f.wrote = append(f.wrote, text...)
			}
		}
	case 3:
		for _, id := range e.Streams() {
			if w.r.IntN(4) == 0 && e.Fin(id) == api.OK {
				w.flow(role, id).fin = true
			}
		}
	default:
		w.drains(role)
	}
}

// drains reads all that there is, and holds it against what was written (T1).
func (w *sim) drains(role int) {
	e := w.ends[role]
	for _, err := e.Accept(); err == api.OK; _, err = e.Accept() {
	}
	for _, id := range e.Streams() {
		for {
			b, end, err := e.Read(id, api.MaxBuffer)
			if err != api.OK || len(b) == 0 && !end {
				break
			}
			f := w.flow(1-role, id)
			f.read = append(f.read, b...)
			f.ended = f.ended || end
			if !bytes.HasPrefix(f.wrote, f.read) || end && (!f.fin || len(f.read) != len(f.wrote)) {
				w.t.Fatalf("T1: stream %d: %d bytes of %d, %v of %v", id, len(f.read), len(f.wrote), end, f.fin)
			}
			if end {
				break
			}
		}
	}
}

// done tells whether all was delivered, and each end told.
func (w *sim) done() bool {
	for role := range 2 {
		for _, f := range w.flows[role] {
			if len(f.read) != len(f.wrote) || f.ended != f.fin {
				return false
			}
		}
		v := w.ends[role].View()
		for _, id := range w.ends[role].Streams() {
			if s, _ := w.ends[role].Stream(id); s.Send.Base != s.Send.Written || s.Send.Fin && !s.Send.FinAcked {
				return false
			}
		}
		if !v.Confirmed {
			return false
		}
	}
	return true
}

// window is a clear one, as chapter 23 has it: what an application's reading lets go may wait for the next one.
func (w *sim) window(n int64) {
	for i := range w.road {
		w.road[i].at = min(w.road[i].at, w.now+w.span)
	}
	end := w.now + n
	for more := true; more; more = w.goOn(end) {
		w.goes(0)
		w.goes(1)
		w.drains(0)
		w.drains(1)
	}
}

// written tells on how many streams something was written or finished, and how many bytes.
func (w *sim) written() (int, int) {
	n, bytes := 0, 0
	for role := range 2 {
		for _, f := range w.flows[role] {
			if f.fin || len(f.wrote) > 0 {
				n++
				bytes += len(f.wrote)
			}
		}
	}
	return n, bytes
}

// quietConfig is one as T2 asks for it.
func quietConfig(r *rand.Rand, role int, span int64) api.Config {
	c := someConfig(r, role)
	c.Idle = 0
	c.Data, c.StreamOwn, c.StreamHis, c.StreamUni = 20000+r.Int64N(40000), 20000+r.Int64N(20000), 20000+r.Int64N(20000), 20000+r.Int64N(20000)
	c.AckDelay = oneOf[int64](r, 0, 1000, 25000)
	c.MaxPTO = max(c.Granularity, 2*span+25000+1+r.Int64N(1000000))
	c.Capacity = oneOf(r, 3000, 16384, 65536)
	c.Bidi, c.Uni = 1+r.Int64N(4), 1+r.Int64N(4)
	return c
}

// T1, T2, T3: over a bad road nothing is read but what was written, and behind it, over a clear one, all of it; C10 and C11 hold all the time. (None of these plays comes to where a client's DONE is lost while its window is full of App's packets, which a server that isn't complete passes over: there the words of chapter 14 and of C5 let both fall silent.)
func TestTwoEnds(t *testing.T) {
	bytesRead, streams := 0, 0
	for seed := range uint64(120) {
		r := rand.New(rand.NewPCG(seed, 23))
		span := oneOf[int64](r, 10, 1000, 30000)
		w := newSim(t, r, span, quietConfig(r, 0, span), quietConfig(r, 1, span))
		w.bad = oneOf(r, 0, 30, 100, 300)
		for range 150 {
			role := r.IntN(2)
			switch n := r.IntN(10); {
			case n < 3:
				w.acts(role)
			case n < 6:
				w.goes(role)
			default:
				w.goOn(w.now + span)
			}
		}
		w.bad = 0
		written, bytes := w.written()
		streams, bytesRead = streams+written, bytesRead+bytes
		cap, delay := int64(0), int64(0)
		for _, e := range w.ends {
			cap, delay = max(cap, e.end.config.MaxPTO), max(delay, e.end.config.AckDelay)
		}
		for range 4 + 2*(written+(bytes+999)/1000) {
			if w.window(2*cap + 6*span + 2*delay); w.done() {
				break
			}
		}
		if !w.done() {
			t.Fatalf("T2: seed %d: not all was delivered: %+v\n%+v", seed, w.ends[0].View(), w.ends[1].View())
		}
		for role, e := range w.ends {
			if v := e.View(); v.State != api.StateLive || v.Code != 0 {
				t.Errorf("T1: seed %d, end %d: %+v", seed, role, v)
			}
		}
	}
	if streams < 300 || bytesRead < 500000 {
		t.Errorf("%d streams, %d bytes: the plays say little", streams, bytesRead)
	}
}

// Two ends come to rest behind what they had to tell: nothing is in flight, nothing waits, no timer runs.
func TestRest(t *testing.T) {
	for bits := range 8 {
		set := func(c *api.Config) { c.Pace, c.Marks, c.Cubic = bits&1 > 0, bits&2 > 0, bits&4 > 0 }
		w := newSim(t, rand.New(rand.NewPCG(1, 1)), 10000, changed(0, set), changed(1, set))
		for w.goes(0); w.goOn(1000000); w.goes(1) {
			w.goes(0)
		}
		for role, e := range w.ends {
			id, _ := e.Open(role == 0)
			f := w.flow(role, id)
			f.wrote, f.fin = bytes.Repeat([]byte{byte(role), 7, 9}, 5000), true
			is(t, "C2: Write", []api.Errno{e.Write(id, f.wrote), e.Fin(id)}, []api.Errno{api.OK, api.OK})
		}
		for range 1000 {
			for role := range 2 {
				w.goes(role)
				w.drains(role)
			}
			if !w.goOn(20000000) {
				break
			}
		}
		is(t, "T2: all was delivered", w.done(), true)
		for _, e := range w.ends {
			v := e.View()
			is(t, "rest", []any{e.Deadline(), v.Recovery.Window.Flight, v.State, v.Open}, []any{int64(api.Never), int64(0), api.StateLive, [3]bool{false, false, true}})
			silent(t, "rest", e, w.now)
		}
	}
}
