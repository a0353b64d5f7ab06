package world

import (
	"math"
	"testing"

	"portage/api"
)

// D1: what New refuses, in its order.
func TestNewRefused(t *testing.T) {
	c, s := config(api.Client), config(api.Server)
	badC, badS := c, s
	badC.MTU, badS.MTU = 1199, 9001
	for _, x := range []struct {
		client, server api.Config
		span           int64
		want           api.Errno
	}{
		{badC, s, 10, api.ErrConnConfig}, {c, badS, 10, api.ErrConnConfig}, {badC, badS, 10, api.ErrConnConfig},
		// A client calls the server by an id, a server calls nobody.
		{s, s, 10, api.ErrConnConfig}, {c, c, 10, api.ErrConnConfig}, {s, c, 10, api.ErrConnConfig},
		{api.Config{}, api.Config{}, 10, api.ErrConnConfig},
		{c, s, -1, api.ErrArg}, {c, s, math.MinInt64, api.ErrArg}, {c, s, api.MaxSpan + 1, api.ErrArg}, {c, s, math.MaxInt64, api.ErrArg},
		// The road is looked at last.
		{badC, s, -1, api.ErrConnConfig}, {c, badS, -1, api.ErrConnConfig}, {c, c, api.MaxSpan + 1, api.ErrConnConfig},
	} {
		if w, err := New(x.client, x.server, x.span); w != nil || err != x.want {
			t.Errorf("D1: New with a span of %d = %v, %d, want %d", x.span, w, err, x.want)
		}
	}
}

// D1, D2: a world at its beginning.
func TestNew(t *testing.T) {
	for _, span := range []int64{0, 1, 1000, api.MaxSpan - 1, api.MaxSpan} {
		w := made(t, config(0), config(1), span)
		is(t, "D2: Now", w.Now(), 0)
		has(t, "D1: New", w, "")
		for role := range 2 {
			v := w.End(role).View()
			is(t, "D1: an end", []any{v.State, v.Role, v.Got, v.Sent, v.IdleAt}, []any{api.StateLive, role, int64(0), int64(0), int64(api.Never)})
			for _, id := range []int64{-1, 0, 1, 4, api.MaxNumber, math.MinInt64, math.MaxInt64} {
				got(t, "D2: nothing was read", w, role, id, "", false)
			}
		}
		all(t, w, api.Act{Kind: 11})
		is(t, "D1: the road's span", w.Road()[0].At, span)
	}
	// The ends begin at the time 0.
	w := changed(t, func(c *api.Config) { c.Idle = 5000000 })
	is(t, "D1: the time of the ends", [2]int64{w.End(0).View().IdleAt, w.End(1).View().IdleAt}, [2]int64{5000000, 5000000})
}

// D2: End is always the same one; of no role it is none.
func TestEnd(t *testing.T) {
	w := plain(t)
	client, server := w.End(0), w.End(1)
	if client == nil || server == nil || client == server {
		t.Fatal("D2: End")
	}
	all(t, w, api.Act{Kind: 17, N: 1000000})
	if w.End(0) != client || w.End(1) != server || client.View().Role != api.Client || server.View().Role != api.Server || !client.View().Confirmed {
		t.Error("D2: End of another play")
	}
	for _, role := range []int{-1, 2, 3, 256, math.MinInt, math.MaxInt} {
		if w.End(role) != nil {
			t.Errorf("D2: End(%d) is there", role)
		}
		got(t, "D2: of no end", w, role, 0, "", false)
	}
}

// D1: one reply an act, in order; none, where there is none.
func TestDo(t *testing.T) {
	w := plain(t)
	unchanged(t, "D1: no acts", w, func() {
		for _, l := range [][]api.Reply{w.Do(), w.Do(nil...), w.Do([]api.Act{}...)} {
			is(t, "D1: no acts", len(l), 0)
		}
	})
	acts := []api.Act{
		{Kind: 11}, {Kind: 10, N: 1000}, {Kind: 11, End: 1}, {Kind: 99}, {Kind: 10, N: 1000}, {Kind: 1}, {Kind: 1, Uni: true}, {Kind: 3, Stream: 2, Data: []byte("hello")},
		{Kind: 11, End: 2}, {Kind: 11}, {Kind: 10, N: 1000}, {Kind: 2, End: 1}, {Kind: 2, End: 1}, {Kind: 2, End: 1}, {Kind: 5, End: 1, Stream: 2, N: 3}, {Kind: 12},
	}
	want := []api.Reply{
		{N: 1}, {}, {N: 1}, {Err: api.ErrWorldAct}, {}, {N: 0}, {N: 2}, {},
		{Err: api.ErrArg}, {N: 1}, {}, {N: 2}, {Err: api.ErrNone}, {Err: api.ErrNone}, {Data: []byte("hel")}, {Err: api.ErrRoadNone},
	}
	var apart []api.Reply
	for _, a := range acts {
		apart = append(apart, one(t, w, a))
	}
	both := plain(t)
	for say, l := range map[string][]api.Reply{"one by one": apart, "at once": both.Do(acts...)} {
		if len(l) != len(want) {
			t.Fatalf("D1: %s: %d replies for %d acts", say, len(l), len(want))
		}
		for i := range l {
			is(t, "D1: "+say+": "+act(acts[i]), tell(l[i]), tell(want[i]))
		}
	}
	is(t, "D1: at once and one by one", picture(w), picture(both))
}

// D2: Road is what is under way, by time, then by number, and asking changes nothing.
func TestRoad(t *testing.T) {
	w := plain(t)
	all(t, w, api.Act{Kind: 11}, api.Act{Kind: 14, N: 1000}, api.Act{Kind: 14, N: 500}, api.Act{Kind: 14, N: 2000}, api.Act{Kind: 10, N: 499})
	unchanged(t, "D2: Road", w, func() {
		for range 2 {
			has(t, "D2: Road", w, "2s500-1200 0s1000-1200 1s1000-1200 3s2000-1200")
		}
		b := w.Road()
		is(t, "D2: its bytes", b[0].Data[:9], []byte("\xc3\x00\x00\x00\x01\x01\x05\x01\x09"))
		w.Now()
		w.End(0)
		w.Took(1, 0)
	})
}

// D2: Took is all that reads got, those of acts and of draining, in order, of each stream and end apart.
func TestTook(t *testing.T) {
	w := met(t)
	all(t, w, api.Act{Kind: 1}, api.Act{Kind: 1}, api.Act{Kind: 3, Data: []byte("abcdefgh")}, api.Act{Kind: 3, Stream: 4, Data: []byte("xyz")}, api.Act{Kind: 11}, api.Act{Kind: 10, N: 1000})
	got(t, "D2: ahead of all reads", w, 1, 0, "", false)
	does(t, "read", w, api.Act{Kind: 5, End: 1, N: 0}, api.Reply{})
	got(t, "D2: no byte", w, 1, 0, "", false)
	does(t, "read", w, api.Act{Kind: 5, End: 1, N: 2}, api.Reply{Data: []byte("ab")})
	got(t, "D2: one read", w, 1, 0, "ab", false)
	does(t, "read", w, api.Act{Kind: 5, End: 1, N: 3}, api.Reply{Data: []byte("cde")})
	got(t, "D2: two reads", w, 1, 0, "abcde", false)
	does(t, "read", w, api.Act{Kind: 5, End: 1, Stream: 8, N: 9}, api.Reply{Err: api.ErrStreamsID})
	got(t, "D2: a read that is refused", w, 1, 8, "", false)
	got(t, "D2: another stream", w, 1, 4, "", false)
	is(t, "of what wasn't read nothing is kept", []int{len(w.took[0]), len(w.took[1])}, []int{0, 1})
	got(t, "D2: the other end", w, 0, 0, "", false)
	all(t, w, api.Act{Kind: 17, N: 0})
	got(t, "D2: a read, then draining", w, 1, 0, "abcdefgh", false)
	got(t, "D2: draining", w, 1, 4, "xyz", false)
	all(t, w, api.Act{Kind: 3, Data: []byte("ij")}, api.Act{Kind: 4}, api.Act{Kind: 4, Stream: 4}, api.Act{Kind: 3, End: 1, Data: []byte("back")}, api.Act{Kind: 11}, api.Act{Kind: 10, N: 1000})
	does(t, "read", w, api.Act{Kind: 5, End: 1, N: 2}, api.Reply{Data: []byte("ij"), Fin: true})
	got(t, "D2: an act was told the end", w, 1, 0, "abcdefghij", true)
	does(t, "read", w, api.Act{Kind: 5, End: 1, N: 2}, api.Reply{Fin: true})
	got(t, "D2: told again", w, 1, 0, "abcdefghij", true)
	got(t, "D2: draining wasn't told yet", w, 1, 4, "xyz", false)
	all(t, w, api.Act{Kind: 17, N: 100000})
	got(t, "D2: draining was told the end, without a byte", w, 1, 4, "xyz", true)
	got(t, "D2: the other direction", w, 0, 0, "back", false)
	// A stream that has ended is known still.
	all(t, w, api.Act{Kind: 4, End: 1}, api.Act{Kind: 4, End: 1, Stream: 4}, api.Act{Kind: 17, N: 100000})
	is(t, "the streams have ended", [2]int{len(w.End(0).Streams()), len(w.End(1).Streams())}, [2]int{0, 0})
	got(t, "D2: behind its end", w, 1, 0, "abcdefghij", true)
	got(t, "D2: behind its end", w, 0, 0, "back", true)
	does(t, "read", w, api.Act{Kind: 5, End: 1, N: 2}, api.Reply{Err: api.ErrStreamsID})
	got(t, "D2: a read behind its end", w, 1, 0, "abcdefghij", true)
}

// D2: a stream that was reset is told by a read; what was taken ahead of that stays.
func TestTookOfReset(t *testing.T) {
	w := met(t)
	all(t, w, api.Act{Kind: 1}, api.Act{Kind: 3, Data: []byte("abcdef")}, api.Act{Kind: 11}, api.Act{Kind: 10, N: 1000})
	does(t, "read", w, api.Act{Kind: 5, End: 1, N: 2}, api.Reply{Data: []byte("ab")})
	all(t, w, api.Act{Kind: 6, N: 7}, api.Act{Kind: 11}, api.Act{Kind: 10, N: 1000})
	does(t, "read of a reset", w, api.Act{Kind: 5, End: 1, N: 2}, api.Reply{Err: api.ErrOver})
	got(t, "D2: reset", w, 1, 0, "ab", false)
}
