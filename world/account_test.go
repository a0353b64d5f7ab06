package world

import (
	"bytes"
	"math/rand/v2"
	"slices"
	"testing"

	"portage/api"
)

// A flow is one direction of a stream: what was asked of the end that sends.
type flow struct {
	wrote       []byte
	fin, broken bool
}

// An account is what was asked for in a play, and what the ends tell of themselves: it holds a world to D3 and D5 behind each act.
type account struct {
	t      *testing.T
	w      *World
	seed   uint64
	flows  [2]map[int64]*flow // by the end that sends
	closed bool               // by act 9
	strong bool               // D3 is promised: no act 16 was played
	flight [2]map[[2]int64]int64
	mtu    [2]int64
	window [2]int64 // as it was behind the last event
	beyond [2]int64 // bytes that left flight above the window since the last expiry
	probes [2]int
	lost   [2]int
	over   [2]int // datagrams' packets that were counted as beyond
}

func newAccount(t *testing.T, seed uint64, w *World, client, server api.Config) *account {
	k := &account{t: t, w: w, seed: seed, strong: true, mtu: [2]int64{int64(client.MTU), int64(server.MTU)}}
	for role := range 2 {
		k.flows[role] = map[int64]*flow{}
		k.flight[role] = map[[2]int64]int64{}
		k.window[role] = w.End(role).View().Recovery.Window.Size
	}
	return k
}

// flow is what an end sends on a stream.
func (k *account) flow(role int, id int64) *flow {
	if k.flows[role][id] == nil {
		k.flows[role][id] = &flow{}
	}
	return k.flows[role][id]
}

// play plays an act, keeps account of it, and holds the world to what is promised.
func (k *account) play(a api.Act) api.Reply {
	k.t.Helper()
	r := one(k.t, k.w, a)
	ok := r.Err == api.OK
	switch {
	case a.Kind == kindWrite && ok:
		f := k.flow(a.End, a.Stream)
		f.wrote = append(f.wrote, a.Data...)
	case a.Kind == kindFin && ok:
		k.flow(a.End, a.Stream).fin = true
	case a.Kind == kindReset && ok:
		k.flow(a.End, a.Stream).broken = true
	case a.Kind == kindStop && ok:
		k.flow(1-a.End, a.Stream).broken = true
	case a.Kind == kindClose && ok:
		k.closed = true
	case a.Kind == kindInject && ok:
		k.strong = false
	}
	for role := range 2 {
		k.disciplined(role, a)
		if k.strong && !k.closed {
			k.state(role, a)
		}
		if k.strong {
			k.safe(role, a)
		}
	}
	return r
}

// state holds an end to not having closed with a code (D3).
func (k *account) state(role int, a api.Act) {
	k.t.Helper()
	v := k.w.End(role).View()
	switch v.State {
	case api.StateLive, api.StateOver:
		if v.Code == 0 && !v.Own && !v.Told {
			return
		}
	}
	k.t.Fatalf("D3: seed %d: behind %s: end %d has closed: %+v", k.seed, act(a), role, v)
}

// safe holds what was taken at an end to what was written at the other one (D3).
func (k *account) safe(role int, a api.Act) {
	k.t.Helper()
	from, to := k.w.End(role), k.w.End(1-role)
	for id := range k.w.took[1-role] {
		f := k.flow(role, id)
		b, end := k.w.Took(1-role, id)
		if !bytes.HasPrefix(f.wrote, b) || end && (!f.fin || len(b) != len(f.wrote)) {
			k.t.Fatalf("D3: seed %d: behind %s: of stream %d end %d took %d bytes, %v, of %d, %v", k.seed, act(a), id, 1-role, len(b), end, len(f.wrote), f.fin)
		}
	}
	for _, id := range from.Streams() {
		if k.flow(role, id).broken {
			continue
		}
		v, _ := from.Stream(id)
		there, err := to.Stream(id)
		took, _ := k.w.Took(1-role, id)
		for _, r := range v.Send.Acked {
			has := there.Recv.Runs
			if err != api.OK && len(took) > 0 {
				has = []api.Run{{Lo: 0, Hi: int64(len(took)) - 1}}
			}
			if !slices.ContainsFunc(has, func(h api.Run) bool { return h.Lo <= r.Lo && r.Hi <= h.Hi }) {
				k.t.Fatalf("D3: seed %d: behind %s: of stream %d end %d holds %v as acknowledged, the other has %v", k.seed, act(a), id, role, r, has)
			}
		}
	}
}

// disciplined takes in an end's events, and holds it to D5.
func (k *account) disciplined(role int, a api.Act) {
	k.t.Helper()
	e := k.w.End(role)
	l := e.Events()
	if len(l) == api.MaxEvents {
		k.t.Fatalf("seed %d: behind %s there are too many events to be told", k.seed, act(a))
	}
	in := k.flight[role]
	sum := int64(0)
	for _, n := range in {
		sum += n
	}
	drop := func(at [2]int64) {
		if _, was := in[at]; !was {
			k.t.Fatalf("D5: seed %d: behind %s: end %d tells of packet %d, which is not in flight", k.seed, act(a), role, at)
		}
		sum -= in[at]
		delete(in, at)
	}
	for _, x := range l {
		at := [2]int64{int64(x.Space), x.Number}
		switch x.Kind {
		case api.EvSent:
			in[at] = x.Size
			if sum += x.Size; sum > k.window[role] {
				k.beyond[role] += x.Size
				k.over[role]++
			}
		case api.EvAcked, api.EvForgotten:
			drop(at)
		case api.EvLost:
			k.lost[role]++
			drop(at)
		case api.EvDropped:
			for n := range in {
				if n[0] == at[0] {
					drop(n)
				}
			}
		case api.EvProbe:
			k.probes[role]++
			k.beyond[role] = 0
		case api.EvWindow:
			k.window[role] = x.A
		}
		if k.beyond[role] > 2*k.mtu[role] {
			k.t.Fatalf("D5: seed %d: behind %s: end %d has sent %d bytes beyond its window since the last expiry", k.seed, act(a), role, k.beyond[role])
		}
		if k.window[role] < 2*k.mtu[role] {
			k.t.Fatalf("D5: seed %d: behind %s: end %d has a window of %d", k.seed, act(a), role, k.window[role])
		}
	}
	if v := e.View().Recovery.Window; v.Flight != sum || v.Size != k.window[role] {
		k.t.Fatalf("D5: seed %d: behind %s: end %d has %d in flight and a window of %d; its events tell %d and %d", k.seed, act(a), role, v.Flight, v.Size, sum, k.window[role])
	}
}

// A source makes configurations and acts, the same at every run.
type source struct {
	*rand.Rand
	w    *World
	span int64
	ids  []int64
	text int // how many bytes were made: no two pieces are alike
}

func newSource(seed uint64) *source {
	return &source{Rand: rand.New(rand.NewPCG(seed, 23))}
}

func pickOf[T any](s *source, l ...T) T { return l[s.IntN(len(l))] }

// config is one that may be; the other end's is of the same source.
func (s *source) config(role int) api.Config {
	id := func() []byte { return repeat(string(rune('a'+role)), 1+s.IntN(20)) }
	c := api.Config{
		Params: api.Params{
			Idle: pickOf[int64](s, 0, 0, 0, 50000, 3000000), Data: s.Int64N(70000), StreamOwn: s.Int64N(20000), StreamHis: s.Int64N(20000), StreamUni: s.Int64N(20000),
			Bidi: s.Int64N(5), Uni: s.Int64N(5), AckExp: s.IntN(21), AckDelay: pickOf[int64](s, 0, 1, 1000, 16383),
		},
		MTU: pickOf(s, 1200, 1200, 1201, 1500, 9000), Capacity: pickOf(s, 1, 100, 3000, 16384, 65536),
		InitialRTT: pickOf[int64](s, 1, 1000, 100000, 333000), Granularity: pickOf[int64](s, 8, 1000, 10000),
		Cubic: s.IntN(2) == 0, Pace: s.IntN(2) == 0, Marks: s.IntN(2) == 0, ID: id(),
	}
	c.MaxPTO = c.Granularity + pickOf[int64](s, 1000, 100000, 3000000)
	c.Burst = int64(c.MTU) * (2 + s.Int64N(20))
	for space := range c.First {
		c.First[space] = pickOf[int64](s, 0, 0, 1, 70000, 1<<30)
	}
	if role == api.Client {
		c.To = []byte("to")
	}
	return c
}

// data is some bytes, of which no two rows are alike.
func (s *source) data() []byte {
	n := pickOf(s, 0, 1, 10, 100, 1000, 3000, s.IntN(20000))
	b := make([]byte, n)
	for i := range b {
		s.text++
		b[i] = byte(s.text*31 + s.text/251)
	}
	return b
}

// stream is an id, mostly of one that was opened.
func (s *source) stream() int64 {
	if s.IntN(20) == 0 || len(s.ids) == 0 {
		return pickOf[int64](s, -1, 0, 1, 2, 3, 4, 5, 17, api.MaxNumber)
	}
	return s.ids[s.IntN(len(s.ids))]
}

// list is what a clear window is told.
func (s *source) list() []int64 {
	var l []int64
	for range s.IntN(4) {
		l = append(l, pickOf(s, s.span, s.Int64N(s.span+1), -s.Int64N(s.span+1), s.Int64(), -s.Int64(), 0))
	}
	return l
}

// after is a span by which something is put off, or time goes on.
func (s *source) after() int64 {
	return pickOf(s, 0, 1, s.span, s.Int64N(s.span+1), s.Int64N(s.span+1), s.Int64N(4*s.span+1), s.Int64N(300000))
}

// act is the next act of a play, of these kinds.
func (s *source) act(kinds ...int) api.Act {
	a := api.Act{Kind: pickOf(s, kinds...), End: s.IntN(2), Stream: s.stream(), Uni: s.IntN(2) == 0}
	switch a.Kind {
	case kindWrite:
		a.Data = s.data()
	case kindRead:
		a.N = pickOf[int64](s, -1, 0, 1, 100, 5000, api.MaxBuffer, api.MaxBuffer+1)
	case kindReset, kindStop:
		a.N = pickOf[int64](s, 0, 7, 9999, api.MaxNumber)
	case kindRank:
		a.N = s.Int64N(8)
	case kindClose:
		a.N, a.Data = pickOf[int64](s, 0, 7, api.MaxNumber), []byte("bye")
	case kindTick:
		a.N = s.after()
	case kindLose, kindDelay, kindDouble, kindMark:
		a.Stream, a.N = s.Int64N(200), s.after()
	case kindInject:
		a.Data = s.data()
	case kindClear:
		a.N, a.List = pickOf(s, s.after(), 4*s.span, 100000), s.list()
	}
	return a
}

// learn keeps a stream that was opened.
func (s *source) learn(a api.Act, r api.Reply) {
	if (a.Kind == kindOpen || a.Kind == kindAccept) && r.Err == api.OK && !slices.Contains(s.ids, r.N) {
		s.ids = append(s.ids, r.N)
	}
}
