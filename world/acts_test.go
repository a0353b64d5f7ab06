package world

import (
	"math"
	"slices"
	"testing"

	"portage/api"
)

// Spans that may not be.
var noSpan = []int64{math.MinInt64, -api.MaxSpan, -1, api.MaxSpan + 1, api.MaxTime, api.Never, math.MaxInt64}

// Roles that no end has.
var nobody = []int{math.MinInt, -2, -1, 2, 3, 1 << 32, math.MaxInt}

// An act of no kind does nothing.
func TestNoAct(t *testing.T) {
	w := met(t)
	all(t, w, api.Act{Kind: 1}, api.Act{Kind: 3, Data: []byte("abc")}, api.Act{Kind: 11})
	unchanged(t, "D1: an act of no kind", w, func() {
		for _, kind := range []int{math.MinInt, -18, -1, 0, 18, 19, 100, 256 + 11, 1<<32 + 11, math.MaxInt} {
			for _, end := range []int{0, 1, 2} {
				does(t, "no kind", w, api.Act{Kind: kind, End: end, N: 5, Data: []byte("x")}, api.Reply{Err: api.ErrWorldAct})
			}
		}
	})
}

// ErrArg, ahead of all else, where End counts and is none.
func TestNoEnd(t *testing.T) {
	w := met(t)
	all(t, w, api.Act{Kind: 9, N: 7})
	unchanged(t, "an act of no end", w, func() {
		for _, kind := range []int{1, 2, 3, 4, 5, 6, 7, 8, 9, 11, 16} {
			for _, end := range nobody {
				a := api.Act{Kind: kind, End: end, Stream: -1, N: -1, Data: make([]byte, api.MaxMTU+1)}
				does(t, "no end", w, a, api.Reply{Err: api.ErrArg})
			}
		}
	})
}

// Of an act only those fields are looked at that its kind has.
func TestOtherFields(t *testing.T) {
	for _, x := range []struct {
		say  string
		a, b api.Act
	}{
		{"open", api.Act{Kind: 1, Uni: true}, api.Act{Kind: 1, Uni: true, Stream: -1, N: -1, Data: []byte("x"), List: []int64{1}}},
		{"accept", api.Act{Kind: 2, End: 1}, api.Act{Kind: 2, End: 1, Stream: -1, N: -1, Uni: true, Data: []byte("x"), List: []int64{1}}},
		{"write", api.Act{Kind: 3, Data: []byte("abc")}, api.Act{Kind: 3, Data: []byte("abc"), N: -1, Uni: true, List: []int64{1}}},
		{"fin", api.Act{Kind: 4}, api.Act{Kind: 4, N: -1, Uni: true, Data: []byte("x"), List: []int64{1}}},
		{"read", api.Act{Kind: 5, End: 1, N: 2}, api.Act{Kind: 5, End: 1, N: 2, Uni: true, Data: []byte("x"), List: []int64{1}}},
		{"reset", api.Act{Kind: 6, N: 2}, api.Act{Kind: 6, N: 2, Uni: true, Data: []byte("x"), List: []int64{1}}},
		{"stop", api.Act{Kind: 7, N: 2}, api.Act{Kind: 7, N: 2, Uni: true, Data: []byte("x"), List: []int64{1}}},
		{"rank", api.Act{Kind: 8, N: 2}, api.Act{Kind: 8, N: 2, Uni: true, Data: []byte("x"), List: []int64{1}}},
		{"close", api.Act{Kind: 9, N: 2, Data: []byte("x")}, api.Act{Kind: 9, N: 2, Data: []byte("x"), Uni: true, Stream: -1, List: []int64{1}}},
		{"tick", api.Act{Kind: 10, N: 999}, api.Act{Kind: 10, N: 999, End: -1, Uni: true, Stream: -1, Data: []byte("x"), List: []int64{1}}},
		{"run", api.Act{Kind: 11}, api.Act{Kind: 11, N: -1, Uni: true, Stream: -1, Data: []byte("x"), List: []int64{1}}},
		{"lose", api.Act{Kind: 12}, api.Act{Kind: 12, N: -1, Uni: true, End: 2, Data: []byte("x"), List: []int64{1}}},
		{"delay", api.Act{Kind: 13, N: 7}, api.Act{Kind: 13, N: 7, Uni: true, End: 2, Data: []byte("x"), List: []int64{1}}},
		{"double", api.Act{Kind: 14, N: 7}, api.Act{Kind: 14, N: 7, Uni: true, End: 2, Data: []byte("x"), List: []int64{1}}},
		{"mark", api.Act{Kind: 15}, api.Act{Kind: 15, N: -1, Uni: true, End: 2, Data: []byte("x"), List: []int64{1}}},
		{"inject", api.Act{Kind: 16, Data: []byte("x")}, api.Act{Kind: 16, Data: []byte("x"), N: -1, Uni: true, Stream: -1, List: []int64{1}}},
		{"clear", api.Act{Kind: 17, N: 5000, List: []int64{1}}, api.Act{Kind: 17, N: 5000, List: []int64{1}, End: 2, Uni: true, Stream: -1, Data: []byte("x")}},
	} {
		play := func(a api.Act) (string, string) {
			w := met(t)
			all(t, w, api.Act{Kind: 1}, api.Act{Kind: 3, Data: []byte("hello")}, api.Act{Kind: 11}, api.Act{Kind: 10, N: 1000}, api.Act{Kind: 3, Data: []byte("more")}, api.Act{Kind: 11}, api.Act{Kind: 3, Data: []byte("waits")})
			return tell(one(t, w, a)), picture(w)
		}
		reply, world := play(x.a)
		reply2, world2 := play(x.b)
		if reply != reply2 || world != world2 {
			t.Errorf("%s: other fields count: %s and %s", x.say, reply, reply2)
		}
	}
}

// Acts 1 and 2.
func TestOpenAccept(t *testing.T) {
	w := met(t)
	for role := range 2 {
		for _, want := range []int64{0, 4, 8, 12} {
			does(t, "open", w, api.Act{Kind: 1, End: role}, api.Reply{N: want + int64(role)})
			does(t, "open of one way", w, api.Act{Kind: 1, End: role, Uni: true}, api.Reply{N: want + 2 + int64(role)})
		}
		does(t, "open too many", w, api.Act{Kind: 1, End: role}, api.Reply{Err: api.ErrStreamsLimit})
		does(t, "open too many of one way", w, api.Act{Kind: 1, End: role, Uni: true}, api.Reply{Err: api.ErrStreamsLimit})
		does(t, "accept of none", w, api.Act{Kind: 2, End: role}, api.Reply{Err: api.ErrNone})
	}
	is(t, "open", w.End(0).Streams(), []int64{0, 2, 4, 6, 8, 10, 12, 14})
	all(t, w, api.Act{Kind: 3, Stream: 4, Data: []byte("a")}, api.Act{Kind: 3, Stream: 2, Data: []byte("b")}, api.Act{Kind: 11}, api.Act{Kind: 10, N: 1000})
	for _, want := range []int64{2, 0, 4} {
		does(t, "accept", w, api.Act{Kind: 2, End: 1}, api.Reply{N: want})
	}
	does(t, "accept of no more", w, api.Act{Kind: 2, End: 1}, api.Reply{Err: api.ErrNone})
	all(t, w, api.Act{Kind: 9}, api.Act{Kind: 9, End: 1})
	does(t, "open of one that closes", w, api.Act{Kind: 1}, api.Reply{Err: api.ErrConnOver})
	does(t, "accept of one that closes", w, api.Act{Kind: 2, End: 1}, api.Reply{Err: api.ErrNone})
}

// Acts 3 and 4.
func TestWriteFin(t *testing.T) {
	w := met(t)
	all(t, w, api.Act{Kind: 1}, api.Act{Kind: 1, End: 1, Uni: true})
	for _, x := range []struct {
		a    api.Act
		want api.Errno
	}{
		{api.Act{Kind: 3, Data: repeat("a", 16000)}, api.OK}, {api.Act{Kind: 3, Data: repeat("b", 385)}, api.ErrFull}, {api.Act{Kind: 3, Data: repeat("c", 384)}, api.OK},
		{api.Act{Kind: 3, Stream: 4}, api.ErrStreamsID}, {api.Act{Kind: 3, Stream: -1}, api.ErrStreamsID}, {api.Act{Kind: 3, Stream: 3}, api.ErrStreamsID},
		{api.Act{Kind: 3, End: 1, Stream: 3, Data: []byte("uni")}, api.OK}, {api.Act{Kind: 3, End: 1, Stream: 0}, api.ErrStreamsID},
		{api.Act{Kind: 4, Stream: 4}, api.ErrStreamsID}, {api.Act{Kind: 4}, api.OK}, {api.Act{Kind: 4}, api.ErrSendDone}, {api.Act{Kind: 3}, api.ErrSendDone},
	} {
		does(t, "write and fin", w, x.a, api.Reply{Err: x.want})
	}
	all(t, w, api.Act{Kind: 17, N: 2000000})
	// D3: a refused write changes nothing of what is taken.
	got(t, "write", w, 1, 0, string(repeat("a", 16000))+string(repeat("c", 384)), true)
	got(t, "write", w, 0, 3, "uni", false)
	all(t, w, api.Act{Kind: 9, End: 1})
	does(t, "write of one that closes", w, api.Act{Kind: 3, End: 1, Stream: 3}, api.Reply{Err: api.ErrConnOver})
	does(t, "fin of one that closes", w, api.Act{Kind: 4, End: 1, Stream: 3}, api.Reply{Err: api.ErrConnOver})
}

// Act 5: how many bytes it asks for.
func TestReadMost(t *testing.T) {
	big := func(c *api.Config) { c.Data, c.StreamHis, c.Capacity = 1<<20, 1<<20, 65536 }
	for _, x := range []struct{ n, want int64 }{
		{math.MinInt64, 0}, {-1, 0}, {0, 0}, {1, 1}, {2, 2}, {65535, 65535}, {65536, 65536}, {65537, 65536}, {1 << 32, 65536}, {1<<32 + 5, 65536}, {math.MaxInt64, 65536},
	} {
		w := changed(t, big)
		all(t, w, api.Act{Kind: 17, N: 1000000}, api.Act{Kind: 1})
		text := repeat("0123456789abcdef", 4096)
		for range 2 {
			all(t, w, api.Act{Kind: 3, Data: text})
			for range 60 {
				all(t, w, api.Act{Kind: 11}, api.Act{Kind: 10, N: 1000}, api.Act{Kind: 11, End: 1}, api.Act{Kind: 10, N: 30000})
			}
		}
		v, err := w.End(1).Stream(0)
		if v.Recv.Held != 2*65536 || err != api.OK {
			t.Fatalf("read: the server holds %d bytes", v.Recv.Held)
		}
		want := string(text[:min(x.want, 65536)])
		does(t, "read", w, api.Act{Kind: 5, End: 1, N: x.n}, api.Reply{Data: []byte(want)})
		got(t, "read", w, 1, 0, want, false)
	}
}

// Act 5: its replies and refusals.
func TestRead(t *testing.T) {
	w := met(t)
	all(t, w, api.Act{Kind: 1}, api.Act{Kind: 1}, api.Act{Kind: 1, Uni: true}, api.Act{Kind: 3, Data: []byte("abc")}, api.Act{Kind: 4}, api.Act{Kind: 3, Stream: 4, Data: []byte("abc")}, api.Act{Kind: 11}, api.Act{Kind: 10, N: 1000})
	does(t, "read of none", w, api.Act{Kind: 5, End: 1, Stream: 8, N: 9}, api.Reply{Err: api.ErrStreamsID})
	does(t, "read of one that only sends", w, api.Act{Kind: 5, Stream: 2, N: 9}, api.Reply{Err: api.ErrStreamsID})
	does(t, "read of nothing", w, api.Act{Kind: 5, N: 9}, api.Reply{})
	does(t, "read ahead of the end", w, api.Act{Kind: 5, End: 1, N: 2}, api.Reply{Data: []byte("ab")})
	does(t, "read to the end", w, api.Act{Kind: 5, End: 1, N: 1}, api.Reply{Data: []byte("c"), Fin: true})
	does(t, "read behind the end", w, api.Act{Kind: 5, End: 1, N: 1}, api.Reply{Fin: true})
	all(t, w, api.Act{Kind: 6, Stream: 4, N: 7}, api.Act{Kind: 11}, api.Act{Kind: 10, N: 1000})
	does(t, "read of a reset", w, api.Act{Kind: 5, End: 1, Stream: 4, N: 1}, api.Reply{Err: api.ErrOver})
	all(t, w, api.Act{Kind: 9, End: 1})
	does(t, "read of one that closes", w, api.Act{Kind: 5, End: 1, N: 1}, api.Reply{Fin: true})
}

// Acts 6 to 8.
func TestResetStopRank(t *testing.T) {
	w := met(t)
	all(t, w, api.Act{Kind: 1}, api.Act{Kind: 1}, api.Act{Kind: 1, Uni: true})
	for _, x := range []struct {
		a    api.Act
		want api.Errno
	}{
		{api.Act{Kind: 6, Stream: 8}, api.ErrStreamsID}, {api.Act{Kind: 6, N: -1}, api.ErrArg}, {api.Act{Kind: 6, N: api.MaxNumber + 1}, api.ErrArg}, {api.Act{Kind: 6, N: api.MaxNumber}, api.OK}, {api.Act{Kind: 6}, api.ErrOver},
		{api.Act{Kind: 7, Stream: 2}, api.ErrStreamsID}, {api.Act{Kind: 7, N: -1}, api.ErrArg}, {api.Act{Kind: 7, N: api.MaxNumber + 1}, api.ErrArg}, {api.Act{Kind: 7, N: 7}, api.OK}, {api.Act{Kind: 7, N: 7}, api.ErrOver},
		{api.Act{Kind: 8, Stream: 8}, api.ErrStreamsID}, {api.Act{Kind: 8, N: -1}, api.ErrArg}, {api.Act{Kind: 8, N: math.MinInt64}, api.ErrArg}, {api.Act{Kind: 8, N: 8}, api.ErrArg}, {api.Act{Kind: 8, N: 1<<32 + 1}, api.ErrArg}, {api.Act{Kind: 8, N: math.MaxInt64}, api.ErrArg},
		{api.Act{Kind: 8, Stream: 4, N: 0}, api.OK}, {api.Act{Kind: 8, Stream: 2, N: 7}, api.OK},
	} {
		does(t, "reset, stop, rank", w, x.a, api.Reply{Err: x.want})
	}
	v, _ := w.End(0).Stream(0)
	is(t, "reset", v.ResetSent, true)
	for id, want := range map[int64]int{0: 3, 4: 0, 2: 7} {
		v, _ = w.End(0).Stream(id)
		is(t, "rank", v.Urgency, want)
	}
	all(t, w, api.Act{Kind: 11}, api.Act{Kind: 10, N: 1000})
	v, _ = w.End(1).Stream(0)
	is(t, "reset, stop: what the other end got", []any{v.Recv.Reset, v.Code, v.ResetSent}, []any{true, int64(api.MaxNumber), true})
	all(t, w, api.Act{Kind: 9})
	for kind := 6; kind <= 8; kind++ {
		does(t, "of one that closes", w, api.Act{Kind: kind, Stream: 4}, api.Reply{Err: api.ErrConnOver})
	}
}

// Act 9: at the world's time.
func TestClose(t *testing.T) {
	w := met(t)
	all(t, w, api.Act{Kind: 10, N: 12345})
	for _, x := range []struct {
		n    int64
		data []byte
		want api.Errno
	}{
		{-1, repeat("x", api.MaxReason+1), api.ErrArg}, {api.MaxNumber + 1, nil, api.ErrArg}, {0, repeat("x", api.MaxReason+1), api.ErrLong}, {api.MaxNumber, repeat("x", api.MaxReason), api.OK}, {0, nil, api.ErrConnOver},
	} {
		does(t, "close", w, api.Act{Kind: 9, N: x.n, Data: x.data}, api.Reply{Err: x.want})
	}
	v := w.End(0).View()
	// The smoothed round trip is 2000, its variation what four samples of it make of 1000.
	period := v.Recovery.RTT.Smooth + max(4*v.Recovery.RTT.Var, 1000) + 25000
	is(t, "close", []any{v.State, v.Code, v.Own, string(v.Reason), v.EndAt}, []any{api.StateClosing, int64(api.MaxNumber), true, string(repeat("x", api.MaxReason)), 2012345 + 3*period})
	does(t, "close: it is told", w, api.Act{Kind: 11}, api.Reply{N: 1})
	all(t, w, api.Act{Kind: 10, N: 1000})
	v = w.End(1).View()
	is(t, "close: the other end drains", []any{v.State, v.Told, v.Code}, []any{api.StateDraining, true, int64(api.MaxNumber)})
	all(t, w, api.Act{Kind: 10, N: 2000000})
	is(t, "close: both are over", [2]int{w.End(0).View().State, w.End(1).View().State}, [2]int{api.StateOver, api.StateOver})
}

// Acts 12 to 15: which one they befall.
func TestWhichDatagram(t *testing.T) {
	for kind := 12; kind <= 15; kind++ {
		w := plain(t)
		unchanged(t, "none is under way", w, func() {
			for _, k := range []int64{math.MinInt64, -1, 0, 1, math.MaxInt64} {
				for _, n := range []int64{0, -1, api.MaxSpan + 1} {
					does(t, "none is under way", w, api.Act{Kind: kind, Stream: k, N: n}, api.Reply{Err: api.ErrRoadNone})
				}
			}
		})
		all(t, w, api.Act{Kind: 11})
		unchanged(t, "below 0", w, func() {
			for _, k := range []int64{math.MinInt64, -2, -1} {
				for _, n := range []int64{0, -1, api.MaxSpan + 1} {
					does(t, "below 0", w, api.Act{Kind: kind, Stream: k, N: n}, api.Reply{Err: api.ErrRoadNone})
				}
			}
		})
		// What time it arrives isn't told by its number.
		for _, k := range []int64{0, 1, 2, 3, 4, 5, 9, 300, 301, math.MaxInt64} {
			w := changed(t, func(c *api.Config) { c.Marks = true })
			all(t, w, api.Act{Kind: 11}, api.Act{Kind: 14, N: 700}, api.Act{Kind: 14, N: 1300})
			has(t, "three are under way", w, "1s700+1200 0s1000+1200 2s1300+1200")
			does(t, "one of three", w, api.Act{Kind: kind, Stream: k, N: 5}, api.Reply{})
			has(t, act(api.Act{Kind: kind, Stream: k, N: 5}), w, [][]string{
				{"0s1000+1200 2s1300+1200", "1s700+1200 2s1300+1200", "1s700+1200 0s1000+1200"},
				{"1s5+1200 0s1000+1200 2s1300+1200", "0s5+1200 1s700+1200 2s1300+1200", "2s5+1200 1s700+1200 0s1000+1200"},
				{"3s5+1200 1s700+1200 0s1000+1200 2s1300+1200", "3s5+1200 1s700+1200 0s1000+1200 2s1300+1200", "3s5+1200 1s700+1200 0s1000+1200 2s1300+1200"},
				{"1s700!1200 0s1000+1200 2s1300+1200", "1s700+1200 0s1000!1200 2s1300+1200", "1s700+1200 0s1000+1200 2s1300!1200"},
			}[kind-12][k%3])
		}
	}
}

// Acts 13 and 14: by how much.
func TestPutOff(t *testing.T) {
	for kind := 13; kind <= 14; kind++ {
		w := plain(t)
		all(t, w, api.Act{Kind: 11}, api.Act{Kind: 10, N: 100})
		unchanged(t, "no span", w, func() {
			for _, n := range noSpan {
				does(t, "no span", w, api.Act{Kind: kind, N: n}, api.Reply{Err: api.ErrArg})
			}
		})
		for _, n := range []int64{0, 1, 900, api.MaxSpan - 1, api.MaxSpan} {
			w := plain(t)
			all(t, w, api.Act{Kind: 11}, api.Act{Kind: 10, N: 100}, api.Act{Kind: kind, N: n})
			l := w.Road()
			is(t, "delay, double: the time", slices.ContainsFunc(l, func(f api.Flight) bool { return f.ID == kind-13 && f.At == 100+n }), true)
			is(t, "delay, double: how many", len(l), kind-12)
		}
	}
	// What is put off to now comes with the next that is due.
	w := plain(t)
	all(t, w, api.Act{Kind: 11}, api.Act{Kind: 10, N: 100}, api.Act{Kind: 13})
	is(t, "delay to now", w.End(1).View().Got, 0)
	all(t, w, api.Act{Kind: 10})
	is(t, "delay to now", w.End(1).View().Got, 1200)
}

// Act 14: on a full road; act 15: of what isn't capable.
func TestDoubleMark(t *testing.T) {
	w := plain(t)
	all(t, w, api.Act{Kind: 11})
	fill(t, w, 0, 800)
	unchanged(t, "double on a full road", w, func() {
		does(t, "double on a full road", w, api.Act{Kind: 14, Stream: 5, N: 3}, api.Reply{Err: api.ErrFull})
		does(t, "no span on a full road", w, api.Act{Kind: 14, Stream: 5, N: -1}, api.Reply{Err: api.ErrArg})
		does(t, "mark of what isn't capable", w, api.Act{Kind: 15, Stream: 5, N: -1}, api.Reply{})
	})
	all(t, w, api.Act{Kind: 12, Stream: 4095})
	is(t, "lose: the last of all", len(w.Road()), api.MaxFlight-1)
	does(t, "double on one with a place", w, api.Act{Kind: 14, Stream: 5, N: 3}, api.Reply{})
	is(t, "double on one with a place", w.Road()[0].ID, api.MaxFlight)
	w = changed(t, func(c *api.Config) { c.Marks = true })
	all(t, w, api.Act{Kind: 11})
	for range 2 {
		does(t, "mark", w, api.Act{Kind: 15}, api.Reply{})
		has(t, "mark", w, "0s1000!1200")
	}
	all(t, w, api.Act{Kind: 17, N: 1000000})
	is(t, "mark: the client hears of it", w.End(0).View().Confirmed, true)
}

// fill fills the road with one that is doubled, to arrive at a time.
func fill(t *testing.T, w *World, id int, at int64) {
	t.Helper()
	for w.road.Len() < api.MaxFlight {
		if _, err := w.road.Double(id, at); err != api.OK {
			t.Fatalf("the road has %d, and is full: %d", w.road.Len(), err)
		}
	}
}

// Act 16.
func TestInject(t *testing.T) {
	for role := range 2 {
		w := met(t)
		before := w.End(role).View().Got
		unchanged(t, "inject too many bytes", w, func() {
			for _, n := range []int{api.MaxMTU + 1, api.MaxMTU + 2, 65536} {
				does(t, "inject too many bytes", w, api.Act{Kind: 16, End: role, Data: make([]byte, n)}, api.Reply{Err: api.ErrLong})
			}
		})
		for _, n := range []int{api.MaxMTU, 1, 0} {
			does(t, "inject", w, api.Act{Kind: 16, End: role, Data: make([]byte, n)}, api.Reply{})
		}
		is(t, "inject: what it was handed", w.End(role).View().Got, before+api.MaxMTU+1)
	}
	// A datagram that is under way comes ahead of its time, at the world's; the other one, later, is nothing new.
	w := plain(t)
	all(t, w, api.Act{Kind: 11}, api.Act{Kind: 10, N: 600})
	does(t, "inject", w, api.Act{Kind: 16, End: 1, Data: w.Road()[0].Data}, api.Reply{})
	v := w.End(1).View()
	is(t, "inject", []any{v.Got, v.Open}, []any{int64(1200), [3]bool{true, true, false}})
	does(t, "inject: the server answers", w, api.Act{Kind: 11, End: 1}, api.Reply{N: 1})
	has(t, "inject: the server answers", w, "0s1000-1200 1c1600-1200")
	// At the world's time: the idle time is set anew by it.
	w = changed(t, func(c *api.Config) { c.Idle = 5000000 })
	all(t, w, api.Act{Kind: 11}, api.Act{Kind: 10, N: 600})
	all(t, w, api.Act{Kind: 16, End: 1, Data: w.Road()[0].Data})
	is(t, "inject: the time", w.End(1).View().IdleAt, 5000600)
	// It is unmarked: of a datagram that is taken as it comes from the road the server tells that it was capable.
	marks := func(injected bool) [3]int64 {
		w := changed(t, func(c *api.Config) { c.Marks = true })
		all(t, w, api.Act{Kind: 17, N: 1000000}, api.Act{Kind: 1}, api.Act{Kind: 3, Data: []byte("a")}, api.Act{Kind: 11})
		if injected {
			all(t, w, api.Act{Kind: 16, End: 1, Data: w.Road()[0].Data})
		}
		all(t, w, api.Act{Kind: 10, N: 1000}, api.Act{Kind: 10, N: 25000}, api.Act{Kind: 11, End: 1})
		return counts(t, w)
	}
	road, injected := marks(false), marks(true)
	is(t, "inject: the mark", [3]int64{road[0] - injected[0], road[1] - injected[1], road[2] - injected[2]}, [3]int64{1, 0, 0})
}
