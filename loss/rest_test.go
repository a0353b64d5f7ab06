package loss

import (
	"math"
	"testing"

	"portage/api"
)

func TestDrop(t *testing.T) {
	l := made(t, plain(), api.Client)
	send(t, l, 0, api.Handshake, asking(400))
	send(t, l, 10, api.Initial, asking(100), padded(200), bare())
	l.Timeout(300000)
	late(t, l, 300020, api.Initial)
	windows(t, "P14.5: 0 and 1 are lost", l, 6000, 6000, 1+400, 300020)
	send(t, l, 300030, api.Initial, asking(2000), padded(3000))
	waits(t, "P14.6: ahead of Drop", l, loses, api.Initial, 412520)
	l.Events()
	ahead := l.View()
	if ahead.Count != 1 || ahead.Spaces[api.Initial].Kept != 3 {
		t.Fatalf("P14.10: ahead of Drop: %+v", ahead)
	}
	l.Drop(400100, api.Initial)
	events(t, "P14.8: Drop", l,
		api.Event{Kind: api.EvDropped, Time: 400100},
		api.Event{Kind: api.EvTimer, Time: 400100, Space: api.Handshake, A: 600000, B: 2})
	want := ahead
	want.Count, want.Window.Flight = 0, 400
	want.Deadline, want.Kind, want.In = 600000, asks, api.Handshake
	want.Spaces[api.Initial] = api.Space{Next: 7, Largest: 4, Last: 300030, Loss: -1}
	if got := l.View(); got != want {
		t.Errorf("P14.8: Drop: %+v, want %+v", got, want)
	}
	nexts(t, "P14.8: behind Drop", l, api.Initial, 0, api.ErrOver)
	refusesSent(t, "behind Drop", l, 500000, api.Initial, asking(1), api.ErrOver)
	refusesAck(t, "behind Drop", l, 500000, api.Initial, frame(0, 0), api.ErrOver)
}

// Of a space that is none, or was dropped, nothing is another way.
func TestDropOfNothing(t *testing.T) {
	l := made(t, plain(), api.Client)
	send(t, l, 0, api.App, asking(1))
	l.Drop(5, api.Initial)
	l.Timeout(300005)
	if got := l.View().Count; got != 1 {
		t.Fatalf("P14.7: COUNT is %d", got)
	}
	ahead := look(l)
	for _, space := range append([]int{api.Initial}, noSpaces...) {
		l.Drop(900000, space)
		same(t, "P14.8: Drop of nothing", l, ahead)
	}
	l.Drop(900000, api.Handshake)
	if got := l.View().Count; got != 0 {
		t.Errorf("P14.8: Drop of an empty space: COUNT is %d, want 0", got)
	}
}

// Drop leaves the window as it was but for its flight, in each space and with each controller.
func TestDropOfEach(t *testing.T) {
	for space := range api.Spaces {
		for _, curved := range []bool{false, true} {
			o := plain()
			o.Cubic = curved
			l := made(t, o, api.Server)
			flight := int64(0)
			for i := range api.Spaces {
				send(t, l, 0, i, asking(int64(100<<i)), padded(int64(7<<i)))
				if i != space {
					flight += int64(100<<i) + int64(7<<i)
				}
			}
			l.Events()
			l.Drop(3, space)
			windows(t, "P14.8: Drop", l, 12000, api.MaxNumber, flight, -1)
			if e := l.Events()[0]; e != (api.Event{Kind: api.EvDropped, Time: 3, Space: space}) {
				t.Errorf("P14.8: Drop(%d): %+v", space, e)
			}
		}
	}
}

// Keys, Confirm and Blocked do nothing but what is said.
func TestKeysConfirmBlocked(t *testing.T) {
	l := server(t)
	send(t, l, 0, api.App, asking(1))
	l.Events()
	ahead := look(l)
	l.Keys(5)
	ahead.own.clock, ahead.own.keys = 5, true
	same(t, "P14.8: Keys", l, ahead)
	l.Blocked(6, true)
	ahead.own.clock, ahead.own.blocked = 6, true
	same(t, "P14.8: Blocked", l, ahead)
	l.Blocked(7, false)
	ahead.own.clock, ahead.own.blocked = 7, false
	same(t, "P14.8: Blocked no more", l, ahead)
	l.Confirm(8)
	waits(t, "P14.8: Confirm", l, asks, api.App, 300000)
	events(t, "P14.8: Confirm", l, api.Event{Kind: api.EvTimer, Time: 8, Space: api.App, A: 300000, B: 2})
	l.Confirm(9)
	events(t, "P14.8: Confirm again", l)
}

// Behind Keys a client's probes are of Handshake, for good.
func TestKeysStay(t *testing.T) {
	l := made(t, plain(), api.Client)
	l.Blocked(0, false)
	waits(t, "P14.6: without keys", l, asks, api.Initial, 300000)
	l.Keys(1)
	waits(t, "P14.8: Keys", l, asks, api.Handshake, 300001)
	l.Keys(2)
	waits(t, "P14.8: Keys again", l, asks, api.Handshake, 300002)
	l.Drop(3, api.Handshake)
	waits(t, "P14.8: Drop leaves KEYS", l, asks, api.Handshake, 300003)
}

// What the other end puts off is taken into 0 to MaxSpan.
func TestPeer(t *testing.T) {
	for _, c := range []struct{ told, want int64 }{
		{0, 0}, {1, 1}, {25000, 25000}, {-1, 0}, {math.MinInt64, 0},
		{api.MaxSpan - 1, api.MaxSpan - 1}, {api.MaxSpan, api.MaxSpan}, {api.MaxSpan + 1, api.MaxSpan}, {math.MaxInt64, api.MaxSpan},
	} {
		o := plain()
		o.MaxPTO, o.InitialRTT, o.Granularity = api.MaxSpan, 1, 1
		l := made(t, o, api.Server)
		l.Peer(api.Params{AckDelay: c.told})
		// Base is 2: 1, and a granularity of 1.
		if got, want := l.Period(), min(c.want+2, api.MaxSpan); got != want {
			t.Errorf("P14.8: Peer of %d: Period() = %d, want %d", c.told, got, want)
		}
		if l.putOff != c.want {
			t.Errorf("P14.8: Peer of %d: PUT-OFF is %d, want %d", c.told, l.putOff, c.want)
		}
	}
	l := server(t)
	ahead := look(l)
	l.Peer(api.Params{AckDelay: 40, AckExp: 7, Idle: 9, Data: 9, StreamOwn: 9, StreamHis: 9, StreamUni: 9, Bidi: 9, Uni: 9})
	ahead.own.putOff, ahead.own.exponent, ahead.period = 40, 7, 300040
	same(t, "P14.8: Peer", l, ahead)
	l.Peer(api.Params{})
	ahead.own.putOff, ahead.own.exponent, ahead.period = 0, 0, 300000
	same(t, "P14.8: Peer told anew", l, ahead)
}

// Period is a probe's span ahead of an expiry, with what the other end puts off, up to the cap.
func TestPeriod(t *testing.T) {
	for _, c := range []struct{ most, putOff, want int64 }{
		{3000000, 0, 300000}, {3000000, 25000, 325000}, {300000, 0, 300000}, {299999, 0, 299999}, {300001, 0, 300000},
		{325000, 25000, 325000}, {324999, 25000, 324999}, {1000, 25000, 1000}, {3000000, math.MaxInt64, 3000000},
	} {
		o := plain()
		o.MaxPTO = c.most
		l := made(t, o, api.Client)
		l.Peer(api.Params{AckDelay: c.putOff})
		l.Keys(0)
		for range 3 {
			ahead := look(l)
			if got := l.Period(); got != c.want {
				t.Errorf("P14.10: %+v: Period() = %d", c, got)
			}
			same(t, "P14.10: Period", l, ahead)
			// It isn't doubled by expiries.
			l.Timeout(l.Deadline())
		}
	}
	l := server(t)
	send(t, l, 0, api.Initial, asking(1))
	ack(t, l, 8000, api.Initial, 0, 0)
	if got := l.Period(); got != 24000 {
		t.Errorf("P14.10: a round trip of 8000: Period() = %d, want 24000", got)
	}
}

func TestView(t *testing.T) {
	o := plain()
	o.First = [3]int64{3, 30, 300}
	l := made(t, o, api.Client)
	send(t, l, 10, api.Initial, asking(100), padded(50))
	send(t, l, 20, api.Handshake, asking(1000), asking(2000), bare())
	l.Timeout(300010)
	f := frame(31, 31)
	f.Marks, f.Counts = true, [3]int64{-1, 0, 0}
	take(t, l, 300020, api.Handshake, f)
	l.Drop(300030, api.App)
	l.Timeout(300031)
	want := api.Recovery{
		RTT:    api.RTT{Has: true, Latest: 300000, Least: 300000, Smooth: 300000, Var: 150000, First: 300020},
		Window: api.Window{Size: 12000, Threshold: api.MaxNumber, Flight: 1150, Began: -1},
		// What is lost is what was sent 337500 ago.
		Deadline: 337520, Kind: loses, In: api.Handshake,
		Spaces: [3]api.Space{
			{Open: true, Next: 5, Largest: -1, Last: 10, Loss: -1, Flight: 150, Kept: 2, Waiting: 1},
			{Open: true, Next: 33, Largest: 31, Last: 20, Loss: 337520, Flight: 1000, Kept: 1, Waiting: 1},
			{Next: 300, Largest: -1, Last: -1, Loss: -1},
		},
		Marks: [3]bool{true, false, true},
	}
	for range 2 {
		ahead := look(l)
		if got := l.View(); got != want {
			t.Errorf("P14.10: View() = %+v, want %+v", got, want)
		}
		same(t, "P14.10: View", l, ahead)
	}
}

// Where Size or Threshold is another one, that is told once a call, behind all but the timer.
func TestWindowEvents(t *testing.T) {
	l := confirmed(t)
	l.Limited(false)
	sent := func(at int64, n int) {
		for range n {
			send(t, l, at, api.App, padded(100))
		}
		l.Events()
	}
	window := func(say string, want ...api.Event) {
		t.Helper()
		var got []api.Event
		for _, e := range l.Events() {
			if e.Kind == api.EvWindow {
				got = append(got, e)
			}
		}
		if len(got) != len(want) || len(want) == 1 && got[0] != want[0] {
			t.Errorf("P14.9: %s: %+v, want %+v", say, got, want)
		}
	}
	sent(0, 4)
	ack(t, l, 1, api.App, 0, 2)
	window("raised thrice by one call", api.Event{Kind: api.EvWindow, Time: 1, A: 12300, B: api.MaxNumber})
	l.Limited(true)
	ack(t, l, 2, api.App, 3, 3)
	window("the same")
	for i, want := range [][2]int64{{6150, 6150}, {3075, 3075}, {2400, 1537}, {2400, 1200}} {
		at := int64(10 * (i + 1))
		sent(at, 4)
		ack(t, l, at+1, api.App, int64(4*i+7), int64(4*i+7))
		// Three are below it; the first of them is lost.
		window("cut", api.Event{Kind: api.EvWindow, Time: at + 1, A: want[0], B: want[1]})
		ack(t, l, at+1, api.App, int64(4*i+5), int64(4*i+6))
	}
	sent(50, 4)
	ack(t, l, 51, api.App, 23, 23)
	window("cut, and the same")
	if v := l.View().Window; v.Size != 2400 || v.Threshold != 1200 || v.Began != 51 {
		t.Errorf("P14.9: the least window is cut: %+v", v)
	}
	// Cut and raised in one call: it is told once.
	l = trip(t)
	l.Limited(false)
	send(t, l, 40000, api.App, asking(1))
	send(t, l, 400000, api.App, asking(1))
	send(t, l, 440000, api.App, padded(700))
	l.Events()
	ack(t, l, 480000, api.App, 3, 3)
	window("cut, collapsed and raised", api.Event{Kind: api.EvWindow, Time: 480000, A: 3100, B: 6000})
}

// Behind a loss timer's losses the window is told, too, ahead of the timer.
func TestWindowEventOfTimeout(t *testing.T) {
	l := server(t)
	late(t, l, 0, api.App)
	l.Events()
	l.Timeout(112500)
	events(t, "P14.9: a loss timer", l,
		api.Event{Kind: api.EvLost, Time: 112500, Space: api.App},
		api.Event{Kind: api.EvWindow, Time: 112500, A: 6000, B: 6000},
		api.Event{Kind: api.EvTimer, Time: 112500, A: api.Never})
}

// Of more than MaxEvents the oldest goes.
func TestMaxEvents(t *testing.T) {
	for _, more := range []int64{0, 1, 2, 5000, 20000} {
		l := made(t, plain(), api.Client)
		many := int64(api.MaxEvents) + more
		for i := range many {
			l.Keys(i)
		}
		got := l.Events()
		if len(got) != api.MaxEvents {
			t.Fatalf("P14.10: of %d events %d are told", many, len(got))
		}
		for i, e := range got {
			at := more + int64(i)
			if want := (api.Event{Kind: api.EvTimer, Time: at, Space: api.Handshake, A: at + 300000, B: 2}); e != want {
				t.Fatalf("P14.10: of %d events number %d is %+v, want %+v", many, i, e, want)
			}
		}
		events(t, "P14.10: they were asked for", l)
		l.Keys(many)
		events(t, "P14.10: one more", l, api.Event{Kind: api.EvTimer, Time: many, Space: api.Handshake, A: many + 300000, B: 2})
	}
}

// One call may tell more than one beyond the bound.
func TestMaxEventsOfOneCall(t *testing.T) {
	l := server(t)
	for range 200 {
		send(t, l, 0, api.App, padded(1))
	}
	for i := range int64(api.MaxEvents - 210) {
		l.Sent(1, api.Initial, padded(0))
		if i%200 == 199 {
			l.Ack(1, api.Initial, frame(0, i))
		}
	}
	kept := len(l.events)
	out := ack(t, l, 5, api.App, 199, 199)
	got := l.Events()
	if len(got) != api.MaxEvents || kept <= api.MaxEvents-200 || len(out.Lost) != 197 {
		t.Fatalf("P14.10: %d events, and %d ahead of it", len(got), kept)
	}
	for i, want := range []int{api.EvTimer, api.EvWindow, api.EvAcked, api.EvLost} {
		if e := got[len(got)-1-i]; e.Kind != want {
			t.Errorf("P14.10: the last but %d is %+v", i, e)
		}
	}
}
