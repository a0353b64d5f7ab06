package world

import (
	"math"
	"math/rand/v2"
	"reflect"
	"slices"
	"testing"

	"portage/api"
)

// like holds a world to a reading, in all that can be asked of both.
func like(t *testing.T, seed uint64, say string, w *World, m *reading) {
	t.Helper()
	if w.Now() != m.time {
		t.Fatalf("D2: seed %d: behind %s it is %d, want %d", seed, say, w.Now(), m.time)
	}
	road, want := w.Road(), m.road()
	same := func(a, b api.Flight) bool {
		return a.ID == b.ID && a.To == b.To && a.At == b.At && a.Mark == b.Mark && slices.Equal(a.Data, b.Data)
	}
	if !slices.EqualFunc(road, want, same) {
		t.Fatalf("D2: seed %d: behind %s under way is %.400s, want %d", seed, say, under(w), len(want))
	}
	for role := range 2 {
		a, b := w.End(role), m.end(role)
		if !reflect.DeepEqual(a.View(), b.View()) || !slices.Equal(a.Streams(), b.Streams()) || a.Deadline() != b.Deadline() {
			t.Fatalf("seed %d: behind %s end %d is %+v, want %+v", seed, say, role, a.View(), b.View())
		}
	}
	for at, text := range m.bytes {
		if b, end := w.Took(int(at[0]), at[1]); !slices.Equal(b, text) || end != m.ends[at] {
			t.Fatalf("D2: seed %d: behind %s: Took(%d) = %d bytes, %v, want %d, %v", seed, say, at, len(b), end, len(text), m.ends[at])
		}
	}
}

// likeWithin looks into the ends.
func likeWithin(t *testing.T, seed uint64, say string, w *World, m *reading) {
	t.Helper()
	for role := range 2 {
		if dump(reflect.ValueOf(w.End(role))) != dump(reflect.ValueOf(m.end(role))) {
			t.Fatalf("seed %d: behind %s end %d is another one", seed, say, role)
		}
	}
}

// odd makes an act that may not be as it is: other ends, kinds and numbers.
func (s *source) odd() api.Act {
	a := s.act(1, 2, 3, 4, 5, 6, 7, 8, 9, 10, 11, 12, 13, 14, 15, 16, 17)
	n := pickOf[int64](s, math.MinInt64, -api.MaxNumber, -2, -1, 0, 1, api.MaxNumber, api.MaxNumber+1, math.MaxInt64)
	switch s.IntN(5) {
	case 0:
		a.Kind = pickOf(s, math.MinInt, -1, 0, 18, 19, 256+a.Kind, math.MaxInt)
	case 1:
		a.End = pickOf(s, math.MinInt, -1, 2, 3, 256, math.MaxInt)
	case 2:
		a.Stream = n
	case 3:
		if a.Kind == kindTick || a.Kind == kindClear {
			n = pickOf[int64](s, math.MinInt64, -1, api.MaxSpan+1, math.MaxInt64)
		}
		a.N = n
	default:
		a.Data = make([]byte, pickOf(s, 0, api.MaxReason+1, api.MaxMTU, api.MaxMTU+1, 70000))
	}
	return a
}

// heard has an act hand an end a datagram that is under way, ahead of its arrival, now and then a little changed.
func (s *source) heard() api.Act {
	a := s.act(kindInject)
	if l := s.w.Road(); len(l) > 0 {
		f := l[s.IntN(len(l))]
		a.Data = f.Data
		if a.End = f.To; s.IntN(10) == 0 {
			a.Data[s.IntN(len(a.Data))] ^= byte(1 + s.IntN(255))
		}
	}
	return a
}

// Behind each of many random acts a world is what the words make of the same acts.
func TestWorldIsTheReading(t *testing.T) {
	t.Parallel()
	answers := map[api.Errno]int{}
	kinds := map[int]int{}
	states := map[int]int{}
	for seed := range uint64(200) {
		s := newSource(seed)
		s.span = pickOf[int64](s, 0, 1, 10, 1000, 30000, 400000)
		c, v := s.config(0), s.config(1)
		w, m := made(t, c, v, s.span), newReading(c, v, s.span)
		s.w = w
		if s.IntN(20) == 0 {
			w.now = api.MaxTime - 1000000
			m.time = w.now
		}
		for i := range 150 {
			a := s.act(1, 1, 2, 3, 3, 3, 4, 5, 5, 8, 10, 10, 10, 11, 11, 11, 11, 11, 11, 12, 13, 13, 14, 14, 15, 17)
			switch n := s.IntN(100); {
			case n < 4:
				a = s.odd()
			case n < 7:
				a = s.heard()
			case n < 9:
				a = s.act(kindReset, kindStop)
			case n == 9 && s.IntN(8) == 0:
				a = s.act(kindInject, kindClose)
			}
			got, want := one(t, w, a), m.Do(a)
			if tell(got) != tell(want) || !slices.Equal(got.Data, want.Data) {
				t.Fatalf("seed %d: %s = %s, want %s", seed, act(a), tell(got), tell(want))
			}
			s.learn(a, got)
			answers[got.Err]++
			kinds[a.Kind]++
			like(t, seed, act(a), w, m)
			if i%30 == 0 {
				likeWithin(t, seed, act(a), w, m)
			}
			for role := range 2 {
				if s.IntN(10) == 0 && !slices.Equal(w.End(role).Events(), m.end(role).Events()) {
					t.Fatalf("seed %d: behind %s end %d has other events", seed, act(a), role)
				}
			}
		}
		likeWithin(t, seed, "all", w, m)
		for role := range 2 {
			states[w.End(role).View().State]++
		}
	}
	for _, e := range []api.Errno{api.OK, api.ErrArg, api.ErrLong, api.ErrNone, api.ErrOver, api.ErrFull, api.ErrSendDone, api.ErrStreamsID, api.ErrStreamsLimit, api.ErrConnOver, api.ErrRoadNone, api.ErrWorldAct} {
		if answers[e] < 20 {
			t.Errorf("error %d was answered %d times alone", e, answers[e])
		}
	}
	for kind := range 18 {
		if kind > 0 && kinds[kind] < 20 {
			t.Errorf("act %d was played %d times alone", kind, kinds[kind])
		}
	}
	for state := range 4 {
		if states[state] < 5 {
			t.Errorf("%d ends alone came to the state %d", states[state], state)
		}
	}
}

// So it is with worlds of many datagrams, whose ends give more than may go at one time, and on full roads.
func TestBusyWorldIsTheReading(t *testing.T) {
	t.Parallel()
	most, full := int64(0), 0
	for seed := range uint64(6) {
		r := rand.New(rand.NewPCG(seed, 231))
		span := []int64{0, 1000, 20000}[r.IntN(3)]
		change := func(c api.Config) api.Config {
			c.Data, c.StreamOwn, c.StreamHis, c.StreamUni, c.Bidi, c.Uni = 1<<20, 1<<18, 1<<18, 1<<18, 20, 20
			c.Capacity, c.Marks = 65536, true
			return c
		}
		c, v := change(config(0)), change(config(1))
		w, m := made(t, c, v, span), newReading(c, v, span)
		play := func(a api.Act) {
			t.Helper()
			got, want := one(t, w, a), m.Do(a)
			if tell(got) != tell(want) {
				t.Fatalf("seed %d: %s = %s, want %s", seed, act(a), tell(got), tell(want))
			}
			if a.Kind == kindRun {
				most = max(most, got.N)
			}
			if got.Err == api.ErrFull && a.Kind == kindDouble {
				full++
			}
			// On a full road that takes long.
			if w.road.Len() < 1000 || r.IntN(10) == 0 {
				like(t, seed, act(a), w, m)
			}
		}
		play(api.Act{Kind: kindClear, N: 2000000})
		for role := range 2 {
			for range 8 {
				play(api.Act{Kind: kindOpen, End: role})
			}
		}
		for range 4 {
			for role := range 2 {
				for i := range int64(8) {
					play(api.Act{Kind: kindWrite, End: role, Stream: 4*i + int64(role), Data: repeat("0123456789", 6000)})
				}
			}
			play(api.Act{Kind: kindRun, End: r.IntN(2)})
			play(api.Act{Kind: kindRun, End: r.IntN(2)})
			if under := w.road.Len(); under > 0 && r.IntN(2) == 0 {
				// The road is filled, or nearly.
				lack := api.MaxFlight - r.IntN(3) - under
				id := w.Road()[r.IntN(under)].ID
				for range lack {
					at := w.now + r.Int64N(2*span+1)
					w.road.Double(id, at)
					f := m.flights[m.place(id)]
					f.At = at
					m.put(f)
				}
				for range 4 {
					play(api.Act{Kind: kindDouble, Stream: r.Int64N(5000), N: r.Int64N(1000)})
				}
				play(api.Act{Kind: kindRun, End: r.IntN(2)})
			}
			play(api.Act{Kind: kindClear, N: r.Int64N(100000), List: []int64{r.Int64(), 7, -r.Int64(), 0}[:r.IntN(5)]})
		}
	}
	if most != 64 || full == 0 {
		t.Errorf("a run gave at most %d, a road was full %d times", most, full)
	}
}
