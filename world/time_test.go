package world

import (
	"slices"
	"testing"

	"portage/api"
)

// times are those of an end's events of a kind since they were asked last.
func times(w *World, role, kind int) []int64 {
	var l []int64
	for _, e := range w.End(role).Events() {
		if e.Kind == kind {
			l = append(l, e.Time)
		}
	}
	return l
}

// Act 10: what spans may be.
func TestTickSpan(t *testing.T) {
	w := plain(t)
	all(t, w, api.Act{Kind: 11})
	unchanged(t, "tick by no span", w, func() {
		for _, n := range noSpan {
			does(t, "tick by no span", w, api.Act{Kind: 10, N: n}, api.Reply{Err: api.ErrArg})
		}
	})
	w = plain(t)
	now := int64(0)
	for _, n := range []int64{0, 1, 999, 1000000, api.MaxSpan - 1, api.MaxSpan} {
		does(t, "tick", w, api.Act{Kind: 10, N: n}, api.Reply{})
		now += n
		is(t, "tick: the time", w.Now(), now)
	}
}

// Act 10: each time at which something is due is gone to, whatever the steps; nobody sends.
func TestTickGoesThroughAll(t *testing.T) {
	for _, steps := range [][]int64{{2000000}, {300000, 600000, 1100000}, {299999, 1, 599999, 2, 1099999}, {0, 2000000, 0}, slices.Repeat([]int64{1000}, 2000)} {
		w := plain(t)
		all(t, w, api.Act{Kind: 11}, api.Act{Kind: 12})
		for _, n := range steps {
			all(t, w, api.Act{Kind: 10, N: n})
			has(t, "nobody sends", w, "")
		}
		// Three periods of the first estimate behind the sending; twice that behind it; then the cap.
		is(t, "tick: the expiries", times(w, 0, api.EvProbe), []int64{300000, 900000, 1900000})
		is(t, "nobody sends", [2]int64{w.End(0).View().Sent, w.End(1).View().Sent}, [2]int64{1200, 0})
		does(t, "then the probes go", w, api.Act{Kind: 11}, api.Reply{N: 2})
	}
}

// Act 10: what arrives is handed in at its time, of one time by number, and the ends answer nothing.
func TestTickArrivals(t *testing.T) {
	w := plain(t)
	all(t, w, api.Act{Kind: 11}, api.Act{Kind: 14, N: 2500}, api.Act{Kind: 14, N: 400})
	for _, x := range []struct{ n, now, got, under int64 }{{399, 399, 0, 3}, {1, 400, 1200, 2}, {599, 999, 1200, 2}, {1, 1000, 2400, 1}, {5000, 6000, 3600, 0}} {
		all(t, w, api.Act{Kind: 10, N: x.n})
		is(t, "tick: arrivals", []int64{w.Now(), w.End(1).View().Got, int64(len(w.Road()))}, []int64{x.now, x.got, x.under})
	}
	is(t, "nobody sends", w.End(1).View().Sent, 0)
	// In idle time that is told at its arrival.
	for _, way := range []int64{0, 1, 1000} {
		w, _ := New(idle(0), idle(1), 1000)
		all(t, w, api.Act{Kind: 11}, api.Act{Kind: 13, N: way}, api.Act{Kind: 10, N: 3000})
		is(t, "tick: a datagram comes at its time", w.End(1).View().IdleAt, 5000000+way)
	}
}

func idle(role int) api.Config {
	c := config(role)
	c.Idle = 5000000
	return c
}

// What is due at one time: datagrams come ahead of timers, so that an acknowledgement that comes as late as may be lets none expire.
func TestArrivalsAheadOfTimers(t *testing.T) {
	for late := range int64(2) {
		for _, kind := range []int{10, 11, 17} {
			w := met(t)
			all(t, w, api.Act{Kind: 1}, api.Act{Kind: 3, Data: []byte("abc")}, api.Act{Kind: 11}, api.Act{Kind: 10, N: 1000})
			all(t, w, api.Act{Kind: 10, N: 25000}, api.Act{Kind: 11, End: 1})
			at := w.End(0).Deadline()
			all(t, w, api.Act{Kind: 13, N: at + late - w.Now()}, api.Act{Kind: 10, N: at - 1 - w.Now()})
			w.End(0).Events()
			switch kind {
			case 10:
				all(t, w, api.Act{Kind: 10, N: 1})
			case 11:
				all(t, w, api.Act{Kind: 10, N: 1}, api.Act{Kind: 11})
			case 17:
				all(t, w, api.Act{Kind: 17, N: 1})
			}
			var want []int64
			if late == 1 {
				want = []int64{at}
			}
			is(t, "what is due: datagrams, then timers", times(w, 0, api.EvProbe), want)
		}
	}
}

// The world's time stops at the last time, and what is due there is done.
func TestLastTime(t *testing.T) {
	for _, kind := range []int{10, 17} {
		w := plain(t)
		w.now = api.MaxTime - 700
		all(t, w, api.Act{Kind: 11}, api.Act{Kind: 14, N: 600}, api.Act{Kind: 14, N: 700}, api.Act{Kind: 14, N: 701})
		r := one(t, w, api.Act{Kind: kind, N: 100000})
		is(t, "the last time", w.Now(), api.MaxTime)
		is(t, "the last time: what arrived", w.End(1).View().Got, 2400)
		if kind == 17 {
			is(t, "the last time: how many arrived", r.N, 2)
		}
		for _, n := range []int64{0, 1, api.MaxSpan} {
			all(t, w, api.Act{Kind: kind, N: n}, api.Act{Kind: 11}, api.Act{Kind: 11, End: 1})
			is(t, "behind the last time", []any{w.Now(), w.End(1).View().Got}, []any{int64(api.MaxTime), int64(2400)})
		}
	}
}

// busy is a world of ends with much to tell: each has so many bytes waiting on its streams, and a window above 100 datagrams.
func busy(t *testing.T) *World {
	t.Helper()
	w := changed(t, func(c *api.Config) {
		c.Data, c.StreamOwn, c.StreamHis, c.StreamUni, c.Bidi, c.Capacity = 1<<20, 1<<18, 1<<18, 1<<18, 20, 65536
	})
	all(t, w, api.Act{Kind: 17, N: 1000000})
	for role := range 2 {
		for range 9 {
			all(t, w, api.Act{Kind: 1, End: role})
		}
	}
	for round := range 2 {
		for role := range 2 {
			for i := range int64(9) {
				all(t, w, api.Act{Kind: 3, End: role, Stream: 4*i + int64(role), Data: repeat("0123456789abcdef", 4000)})
			}
		}
		if round == 0 {
			all(t, w, api.Act{Kind: 17, N: 1000000})
		}
	}
	for role := range 2 {
		if v := w.End(role).View().Recovery; v.Window.Size < 150000 || v.Window.Flight != 0 {
			t.Fatalf("end %d: %+v", role, v)
		}
	}
	return w
}

// Act 11: an end gives what it has, but 64 datagrams at most, each of which goes to the other end.
func TestRun(t *testing.T) {
	for role := range 2 {
		w := busy(t)
		left := int64(0)
		for i, want := range []int64{64, 64} {
			does(t, "run", w, api.Act{Kind: 11, End: role}, api.Reply{N: want})
			left += want
			l := w.Road()
			is(t, "run: under way", len(l), int(left))
			for _, f := range l {
				if f.To != 1-role || f.At != w.Now()+1000 || f.Mark != api.Unmarked {
					t.Fatalf("run %d: number %d goes to %d, arrives at %d, marked %d", i, f.ID, f.To, f.At, f.Mark)
				}
			}
		}
		is(t, "run: its bytes", len(w.Road()[127].Data), 1200)
	}
	w := plain(t)
	for _, want := range []int64{1, 0, 0} {
		does(t, "run: the client", w, api.Act{Kind: 11}, api.Reply{N: want})
		does(t, "run: the server has nothing", w, api.Act{Kind: 11, End: 1}, api.Reply{})
	}
	has(t, "run", w, "0s1000-1200")
	// Its timers are asked first: the probes go at once.
	w = plain(t)
	all(t, w, api.Act{Kind: 11}, api.Act{Kind: 12})
	w.now = 300000 // without what is due being done
	does(t, "run: a timer is due", w, api.Act{Kind: 11}, api.Reply{N: 2})
	is(t, "run: a timer is due", w.End(0).View().Recovery.Count, 1)
	has(t, "run: a timer is due", w, "1s301000-1200 2s301000-1200")
	// Just its own.
	w = plain(t)
	all(t, w, api.Act{Kind: 11}, api.Act{Kind: 12})
	w.now = 300000
	does(t, "run: the other's timer is due", w, api.Act{Kind: 11, End: 1}, api.Reply{})
	is(t, "run: the other's timer is due", w.End(0).View().Recovery.Count, 0)
	// With marks, where they are set.
	w = changed(t, func(c *api.Config) { c.Marks = true })
	all(t, w, api.Act{Kind: 11})
	has(t, "run: capable", w, "0s1000+1200")
}

// Act 11: what a full road has no room for counts, and is gone.
func TestRunOnFullRoad(t *testing.T) {
	w := plain(t)
	all(t, w, api.Act{Kind: 11})
	fill(t, w, 0, 800)
	all(t, w, api.Act{Kind: 10, N: 500}, api.Act{Kind: 16, End: 1, Data: w.Road()[0].Data})
	before := under(w)
	does(t, "run on a full road", w, api.Act{Kind: 11, End: 1}, api.Reply{N: 1})
	is(t, "run on a full road", under(w) == before, true)
	is(t, "run on a full road: it has sent", w.End(1).View().Sent, 1200)
	// One place: the first is there, the others are gone.
	w = busy(t)
	all(t, w, api.Act{Kind: 11})
	first := w.Road()[0].ID
	fill(t, w, first, w.Now()+800)
	all(t, w, api.Act{Kind: 12})
	does(t, "run on a road with a place", w, api.Act{Kind: 11, End: 1}, api.Reply{N: 64})
	to := 0
	for _, f := range w.Road() {
		if f.To == api.Client {
			to++
		}
	}
	is(t, "run on a road with a place", []int{to, w.road.Len()}, []int{1, api.MaxFlight})
}
