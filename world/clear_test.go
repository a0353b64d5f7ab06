package world

import (
	"fmt"
	"math"
	"strings"
	"testing"

	"portage/api"
)

// Act 17: what spans may be.
func TestClearSpan(t *testing.T) {
	w := plain(t)
	all(t, w, api.Act{Kind: 11})
	unchanged(t, "clear of no span", w, func() {
		for _, n := range noSpan {
			does(t, "clear of no span", w, api.Act{Kind: 17, N: n}, api.Reply{Err: api.ErrArg})
		}
	})
	w = met(t)
	for _, n := range []int64{0, 1, api.MaxSpan - 1, api.MaxSpan} {
		at := w.Now()
		does(t, "clear", w, api.Act{Kind: 17, N: n}, api.Reply{})
		is(t, "clear: the time", w.Now(), at+n)
	}
}

// Act 17: all that both ends have to say is said, step by step, and counted.
func TestClearSteps(t *testing.T) {
	// HELLO arrives at 1000, the answer at 2000, the client's DONE at 3000, the server's at 4000, its acknowledgement at 30000.
	for _, x := range []struct {
		n, arrived int64
		road       string
	}{
		{0, 0, "0s1000-1200"}, {999, 0, "0s1000-1200"}, {1000, 1, "1c2000-1200"}, {1999, 1, "1c2000-1200"}, {2000, 2, "2s3000-"}, {2999, 2, "2s3000-"},
		{3000, 3, "3c4000-"}, {4000, 4, ""}, {28999, 4, ""}, {29000, 4, "4s30000-"}, {29999, 4, "4s30000-"}, {30000, 5, ""}, {5000000, 5, ""},
	} {
		w := plain(t)
		does(t, "clear", w, api.Act{Kind: 17, N: x.n}, api.Reply{N: x.arrived})
		if got := under(w); !strings.HasPrefix(got, x.road) || x.road == "" && got != "" {
			t.Errorf("clear of %d: under way is %s, want %s", x.n, got, x.road)
		}
		is(t, "clear: the time", w.Now(), x.n)
		// In two windows it is as in one.
		if x.n > 0 {
			w := plain(t)
			sum := int64(0)
			for _, n := range []int64{x.n / 3, x.n - x.n/3} {
				sum += one(t, w, api.Act{Kind: 17, N: n}).N
			}
			is(t, "clear, twice", []int64{sum, w.Now()}, []int64{x.arrived, x.n})
		}
	}
}

// Act 17: what is under way as the window begins arrives by the span's end; it is not of those that the list tells of.
func TestClearHastens(t *testing.T) {
	for _, x := range []struct {
		list []int64
		want string
	}{
		{nil, "1s999-1200 0s1000-1200 3s1000-1200 2s1001-1200 4s1500-1200 6c1500-1200"},
		{[]int64{5}, "6c505-1200 1s999-1200 0s1000-1200 3s1000-1200 2s1001-1200 4s1500-1200"},
	} {
		w := plain(t)
		all(t, w, api.Act{Kind: 11}, api.Act{Kind: 14, N: 999}, api.Act{Kind: 14, N: 1001}, api.Act{Kind: 14, N: 1000}, api.Act{Kind: 14, N: api.MaxSpan}, api.Act{Kind: 14, N: 0}, api.Act{Kind: 10, N: 500})
		has(t, "ahead of the window", w, fmt.Sprintf("1s999-1200 0s1000-1200 3s1000-1200 2s1001-1200 4s%d-1200", int64(api.MaxSpan)))
		// The server, which got the sixth one, answers.
		does(t, "clear", w, api.Act{Kind: 17, N: 0, List: x.list}, api.Reply{})
		has(t, "clear hastens", w, x.want)
	}
	// What arrives with the span's end arrives in the window; with one less it doesn't.
	for _, n := range []int64{999, 1000} {
		w := met(t)
		all(t, w, api.Act{Kind: 1}, api.Act{Kind: 3, Data: []byte("a")}, api.Act{Kind: 11}, api.Act{Kind: 13, N: 70000})
		does(t, "clear", w, api.Act{Kind: 17, N: n}, api.Reply{N: n / 1000})
	}
}

// Act 17: how long the datagrams take that the window puts onto the road.
func TestClearList(t *testing.T) {
	for _, x := range []struct {
		list []int64
		want []int64 // of the first four
	}{
		{nil, []int64{1000, 1000, 1000, 1000}}, {[]int64{}, []int64{1000, 1000, 1000, 1000}},
		{[]int64{7}, []int64{7, 7, 7, 7}}, {[]int64{-7}, []int64{7, 7, 7, 7}}, {[]int64{1000}, []int64{1000, 1000, 1000, 1000}},
		{[]int64{-7, 1500}, []int64{7, 499, 7, 499}}, {[]int64{1002, -1002, 999}, []int64{1, 1, 999, 1}}, {[]int64{-1001, 1001, 3}, []int64{0, 0, 3, 0}},
		{[]int64{1, 2, 3, 4, 5}, []int64{1, 2, 3, 4}},
		{[]int64{math.MinInt64, math.MaxInt64, math.MinInt64 + 1}, []int64{8, 7, 7, 8}},
	} {
		w := met(t)
		all(t, w, api.Act{Kind: 1}, api.Act{Kind: 3, Data: repeat("x", 4000)})
		all(t, w, api.Act{Kind: 17, N: 0, List: x.list})
		is(t, fmt.Sprintf("the list %d", x.list), ways(w, 5, 4), x.want)
	}
	// It goes on from window to window anew, and over both ends: the client's first.
	w := met(t)
	all(t, w, api.Act{Kind: 1}, api.Act{Kind: 1, End: 1}, api.Act{Kind: 3, Data: repeat("x", 2000)}, api.Act{Kind: 3, End: 1, Stream: 1, Data: repeat("x", 2000)})
	all(t, w, api.Act{Kind: 17, List: []int64{10, 20, 30}})
	is(t, "the list, of both ends", ways(w, 5, 4), []int64{10, 20, 30, 10})
	has(t, "the list, of both ends", w, "5s2000010-1200 8c2000010-830 6s2000020-822 7c2000030-1200")
	all(t, w, api.Act{Kind: 3, Data: repeat("x", 100)}, api.Act{Kind: 17, List: []int64{15, 25}})
	is(t, "the list, anew", ways(w, 9, 1), []int64{15})
	// In a world whose datagrams take no time a list says nothing.
	w = made(t, config(0), config(1), 0)
	all(t, w, api.Act{Kind: 17, N: 0, List: []int64{5, -3, math.MinInt64}})
	is(t, "no span", w.End(1).View().Got, 1200)
}

// ways is how long each of so many datagrams, from a number on, takes from now.
func ways(w *World, from, n int) []int64 {
	l := make([]int64, n)
	for _, f := range w.Road() {
		if f.ID >= from && f.ID < from+n {
			l[f.ID-from] = f.At - w.Now()
		}
	}
	return l
}

// Act 17: what takes no time isn't ahead of the world's time: it comes with what is due next, at the window's end at the latest.
func TestClearNoWay(t *testing.T) {
	for _, x := range []struct {
		n       int64
		arrived int64
		got     int64 // of the server
		state   string
	}{
		{0, 1, 1200, ""}, {299999, 1, 1200, ""},
		// The client's timer is the next that is due: then the first has come, and its probes go, and come at the end.
		{300000, 4, 3600, ""},
	} {
		w := plain(t)
		does(t, "clear with no way", w, api.Act{Kind: 17, N: x.n, List: []int64{0}}, api.Reply{N: x.arrived})
		is(t, "clear with no way", []any{w.Now(), w.End(1).View().Got, under(w)}, []any{x.n, x.got, x.state})
	}
}

// Act 17: what a full road has no room for isn't counted by the list.
func TestClearOnFullRoad(t *testing.T) {
	w := plain(t)
	all(t, w, api.Act{Kind: 11})
	fill(t, w, 0, 800)
	all(t, w, api.Act{Kind: 16, End: 1, Data: w.Road()[0].Data})
	// The server answers, in vain. At 1000 the road is free; at 300000 the timers of both expire, and the first that is put is one of the client's probes.
	does(t, "clear on a full road", w, api.Act{Kind: 17, N: 300000, List: []int64{700, 30, 40, 50}}, api.Reply{N: 4096})
	is(t, "clear on a full road: in vain", w.End(1).View().Sent, 3600)
	has(t, "clear on a full road: the first that was put", w, "4097s300030-1200 4098c300040-1200 4099c300050-1200 4096s300700-1200")
}

// Act 17: at the window's end there is what is due, but nobody runs or drains any more.
func TestClearEnd(t *testing.T) {
	w := met(t)
	all(t, w, api.Act{Kind: 1}, api.Act{Kind: 3, Data: []byte("abc")}, api.Act{Kind: 4}, api.Act{Kind: 11}, api.Act{Kind: 13, N: 500})
	does(t, "clear to the arrival", w, api.Act{Kind: 17, N: 500}, api.Reply{N: 1})
	got(t, "clear to the arrival: it is read at once", w, 1, 0, "abc", true)
	// With no way it comes behind the last draining.
	w = met(t)
	all(t, w, api.Act{Kind: 1}, api.Act{Kind: 3, Data: []byte("abc")}, api.Act{Kind: 4})
	does(t, "clear without a way", w, api.Act{Kind: 17, N: 0, List: []int64{0}}, api.Reply{N: 1})
	got(t, "clear without a way: it has come, and isn't read", w, 1, 0, "", false)
	does(t, "clear without a way", w, api.Act{Kind: 2, End: 1}, api.Reply{})
	does(t, "clear: it is read", w, api.Act{Kind: 5, End: 1, N: 9}, api.Reply{Data: []byte("abc"), Fin: true})
}

// Act 17: an application accepts all that there are, and reads each to its last byte, also of ends that aren't live.
func TestDraining(t *testing.T) {
	big := func(c *api.Config) { c.Data, c.StreamHis, c.StreamUni, c.Capacity = 1<<20, 1<<20, 1<<20, 65536 }
	for _, closed := range []bool{false, true} {
		w := changed(t, big)
		all(t, w, api.Act{Kind: 17, N: 1000000}, api.Act{Kind: 1}, api.Act{Kind: 1}, api.Act{Kind: 1, Uni: true}, api.Act{Kind: 1, Uni: true})
		text := repeat("0123456789abcdef", 4096)
		for range 2 {
			all(t, w, api.Act{Kind: 3, Data: text})
			for range 60 {
				all(t, w, api.Act{Kind: 11}, api.Act{Kind: 10, N: 1000}, api.Act{Kind: 11, End: 1}, api.Act{Kind: 10, N: 30000})
			}
		}
		all(t, w, api.Act{Kind: 3, Stream: 2, Data: []byte("two")}, api.Act{Kind: 4, Stream: 2}, api.Act{Kind: 3, Stream: 4, Data: []byte("four")}, api.Act{Kind: 6, Stream: 4}, api.Act{Kind: 4, Stream: 6}, api.Act{Kind: 11}, api.Act{Kind: 10, N: 1000})
		if closed {
			all(t, w, api.Act{Kind: 9, End: 1})
		}
		all(t, w, api.Act{Kind: 17, N: 0})
		got(t, "draining: more than a read gives", w, 1, 0, string(text)+string(text), false)
		got(t, "draining: to the end", w, 1, 2, "two", true)
		got(t, "draining: a reset", w, 1, 4, "", false)
		got(t, "draining: nothing but the end", w, 1, 6, "", true)
		does(t, "draining: all are accepted", w, api.Act{Kind: 2, End: 1}, api.Reply{Err: api.ErrNone})
	}
}
