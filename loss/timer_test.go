package loss

import (
	"reflect"
	"slices"
	"testing"

	"portage/api"
)

// late leaves a packet in a space that is lost by time at sent + 112500.
func late(t *testing.T, l *Loss, sent int64, space int) {
	t.Helper()
	send(t, l, sent, space, asking(1), padded(1))
	next, _ := l.Next(space)
	ack(t, l, sent, space, next-1, next-1)
}

// The first case: packets that are lost by time.
func TestLossTimer(t *testing.T) {
	for _, c := range []struct {
		say  string
		sent [api.Spaces]int64 // in which order is told by them; -1: nothing
		in   int
		at   int64
	}{
		{"Initial alone", [3]int64{50, -1, -1}, api.Initial, 112550},
		{"Handshake alone", [3]int64{-1, 50, -1}, api.Handshake, 112550},
		{"App alone", [3]int64{-1, -1, 50}, api.App, 112550},
		{"Initial first", [3]int64{50, 51, 52}, api.Initial, 112550},
		{"Handshake first", [3]int64{52, 50, 51}, api.Handshake, 112550},
		{"App first", [3]int64{51, 52, 50}, api.App, 112550},
		{"all alike", [3]int64{50, 50, 50}, api.Initial, 112550},
		{"Handshake and App alike", [3]int64{-1, 50, 50}, api.Handshake, 112550},
		{"Handshake and App alike and first", [3]int64{51, 50, 50}, api.Handshake, 112550},
		{"Initial and App alike", [3]int64{50, -1, 50}, api.Initial, 112550},
	} {
		for _, role := range []int{api.Client, api.Server} {
			for _, blocked := range []bool{false, true} {
				l := made(t, plain(), role)
				for at := int64(50); at < 53; at++ {
					for space, sent := range c.sent {
						if sent == at {
							late(t, l, at, space)
						}
					}
				}
				// It comes ahead of being blocked, and of probes, even if these are sooner.
				l.Blocked(60, blocked)
				waits(t, "P14.6: "+c.say, l, loses, c.in, c.at)
			}
		}
	}
}

// A loss timer comes ahead of a probe that is due sooner.
func TestLossAheadOfProbes(t *testing.T) {
	o := plain()
	o.MaxPTO = 200000
	l := made(t, o, api.Server)
	send(t, l, 0, api.Initial, asking(1))
	late(t, l, 150000, api.Handshake)
	waits(t, "P14.6: a probe in Initial would be due at 200000", l, loses, api.Handshake, 262500)
	l.Timeout(262500)
	waits(t, "P14.6: behind the loss", l, asks, api.Initial, 200000)
	if x := l.Timeout(262500); x.Kind != asks || x.Space != api.Initial {
		t.Errorf("P14.7: the probe is due: %+v", x)
	}
	waits(t, "P14.7: behind the probe", l, asks, api.Initial, 462500)
}

// A space that was dropped has no loss timer.
func TestLossOfADroppedSpace(t *testing.T) {
	l := server(t)
	late(t, l, 50, api.Initial)
	late(t, l, 60, api.Handshake)
	waits(t, "P14.6: Initial first", l, loses, api.Initial, 112550)
	l.Drop(70, api.Initial)
	waits(t, "P14.6: Initial is dropped", l, loses, api.Handshake, 112560)
	l.Drop(70, api.Handshake)
	idle(t, "P14.6: both are dropped", l)
}

// The second case: while nothing may be sent there are no probes.
func TestBlocked(t *testing.T) {
	for _, role := range []int{api.Client, api.Server} {
		l := made(t, plain(), role)
		send(t, l, 5, api.Initial, asking(1))
		waits(t, "P14.6: not blocked", l, asks, api.Initial, 300005)
		l.Events()
		l.Blocked(6, true)
		idle(t, "P14.6: blocked", l)
		events(t, "P14.6: blocked", l, api.Event{Kind: api.EvTimer, Time: 6, A: api.Never})
		send(t, l, 7, api.Initial, asking(1))
		l.Blocked(8, true)
		l.Keys(8)
		idle(t, "P14.6: blocked still", l)
		if x := l.Timeout(5000000); !reflect.DeepEqual(x, api.Expiry{}) {
			t.Errorf("P14.7: blocked: %+v", x)
		}
		l.Events()
		l.Blocked(5000001, false)
		waits(t, "P14.6: unblocked", l, asks, api.Initial, 300007)
		events(t, "P14.6: unblocked", l, api.Event{Kind: api.EvTimer, Time: 5000001, A: 300007, B: 2})
	}
	l := made(t, plain(), api.Client)
	l.Blocked(5, true)
	idle(t, "P14.6: a client that is silent and blocked", l)
	l.Blocked(9, false)
	waits(t, "P14.6: a client that is silent", l, asks, api.Initial, 300009)
}

// The third case: what wants an acknowledgement.
func TestProbeTimer(t *testing.T) {
	type sent struct {
		at    int64
		space int
		kind  byte
	}
	for _, c := range []struct {
		say     string
		confirm bool
		putOff  int64
		sent    []sent
		in      int
		at      int64 // -1: the fourth case, or the fifth
	}{
		{"Initial", false, 0, []sent{{10, 0, 'A'}}, 0, 300010},
		{"Handshake", false, 0, []sent{{10, 1, 'A'}}, 1, 300010},
		{"App, not confirmed", false, 0, []sent{{10, 2, 'A'}}, 0, -1},
		{"App, confirmed", true, 0, []sent{{10, 2, 'A'}}, 2, 300010},
		{"the last one counts", false, 0, []sent{{10, 0, 'A'}, {20, 0, 'A'}}, 0, 300020},
		{"the last one that is Eliciting", false, 0, []sent{{10, 0, 'A'}, {20, 0, 'P'}, {30, 0, 'B'}}, 0, 300010},
		{"padded alone", true, 0, []sent{{10, 0, 'P'}, {10, 1, 'P'}, {10, 2, 'P'}}, 0, -1},
		{"bare alone", true, 0, []sent{{10, 0, 'B'}, {10, 1, 'B'}, {10, 2, 'B'}}, 0, -1},
		{"Initial first", true, 0, []sent{{10, 0, 'A'}, {11, 1, 'A'}, {12, 2, 'A'}}, 0, 300010},
		{"Handshake first", true, 0, []sent{{10, 1, 'A'}, {11, 0, 'A'}, {12, 2, 'A'}}, 1, 300010},
		{"App first", true, 0, []sent{{10, 2, 'A'}, {11, 1, 'A'}, {12, 0, 'A'}}, 2, 300010},
		{"App first, not confirmed", false, 0, []sent{{10, 2, 'A'}, {11, 1, 'A'}, {12, 0, 'A'}}, 1, 300011},
		{"all alike", true, 0, []sent{{10, 2, 'A'}, {10, 1, 'A'}, {10, 0, 'A'}}, 0, 300010},
		{"Handshake and App alike", true, 0, []sent{{10, 2, 'A'}, {10, 1, 'A'}}, 1, 300010},
		{"put off in App", true, 25000, []sent{{10, 2, 'A'}}, 2, 325010},
		{"put off in App alone", true, 25000, []sent{{10, 2, 'A'}, {11, 1, 'A'}}, 1, 300011},
		{"not put off in Initial", true, 25000, []sent{{10, 0, 'A'}}, 0, 300010},
		{"not put off in Handshake", true, 25000, []sent{{10, 1, 'A'}}, 1, 300010},
		{"App alike by what is put off", true, 7, []sent{{10, 2, 'A'}, {17, 1, 'A'}}, 1, 300017},
		{"App first by one", true, 6, []sent{{10, 2, 'A'}, {17, 1, 'A'}}, 2, 300016},
		{"put off beyond the cap", true, api.MaxSpan, []sent{{10, 2, 'A'}}, 2, 3000010},
		{"beyond the cap in App alone", true, api.MaxSpan, []sent{{10, 2, 'A'}, {2700010, 0, 'A'}}, 0, 3000010},
		{"beyond the cap in App, the other one later", true, api.MaxSpan, []sent{{10, 2, 'A'}, {2700011, 0, 'A'}}, 2, 3000010},
	} {
		l := made(t, plain(), api.Server)
		l.Peer(api.Params{AckDelay: c.putOff})
		if c.confirm {
			l.Confirm(0)
		}
		for _, s := range c.sent {
			send(t, l, s.at, s.space, map[byte]api.Sent{'A': asking(1), 'P': padded(1), 'B': bare()}[s.kind])
		}
		if c.at < 0 {
			idle(t, "P14.6: "+c.say, l)
			continue
		}
		waits(t, "P14.6: "+c.say, l, asks, c.in, c.at)
	}
}

// A probe's span is by the round trip that was learned.
func TestProbeByTheRoundTrip(t *testing.T) {
	l := confirmed(t)
	send(t, l, 0, api.App, asking(1), asking(1))
	ack(t, l, 8000, api.App, 0, 0)
	waits(t, "P14.6: a round trip of 8000", l, asks, api.App, 24000)
	l.Peer(api.Params{AckDelay: 500})
	waits(t, "P14.8: Peer leaves the timer", l, asks, api.App, 24000)
	send(t, l, 8000, api.App, padded(1))
	waits(t, "P14.6: 500 are put off", l, asks, api.App, 24500)
}

// Behind an expiry the next one is reckoned from it, till something is sent later.
func TestProbedOrLast(t *testing.T) {
	l := server(t)
	send(t, l, 100, api.Initial, asking(1))
	send(t, l, 200, api.Handshake, asking(1))
	waits(t, "P14.6: nothing expired", l, asks, api.Initial, 300100)
	l.Timeout(300100)
	waits(t, "P14.6: both from the expiry on", l, asks, api.Initial, 900100)
	send(t, l, 300200, api.Initial, asking(1))
	waits(t, "P14.6: Initial is later", l, asks, api.Handshake, 900100)
	send(t, l, 300300, api.Handshake, asking(1))
	waits(t, "P14.6: Handshake is later still", l, asks, api.Initial, 900200)
	l.Drop(300400, api.Initial)
	waits(t, "P14.8: COUNT is 0", l, asks, api.Handshake, 600300)
}

// PROBED stays where COUNT begins anew.
func TestProbedStays(t *testing.T) {
	l := server(t)
	send(t, l, 100, api.Initial, asking(1))
	send(t, l, 100, api.Handshake, asking(1))
	l.Timeout(350000)
	l.Drop(350001, api.Initial)
	waits(t, "P14.8: from the expiry on, with COUNT 0", l, asks, api.Handshake, 650000)
	l = server(t)
	send(t, l, 100, api.Initial, asking(1))
	send(t, l, 100, api.Handshake, asking(1))
	l.Timeout(350000)
	ack(t, l, 350100, api.Initial, 0, 0)
	// A round trip of 350000: Base is 1050000.
	waits(t, "P14.4: from the expiry on, with COUNT 0", l, asks, api.Handshake, 1400000)
}

// The fourth case: nothing is under way, and the other end may send.
func TestNoTimerIfSure(t *testing.T) {
	for _, c := range []struct {
		say  string
		role int
		turn func(l *Loss)
	}{
		{"a server", api.Server, func(l *Loss) {}},
		{"a server with keys", api.Server, func(l *Loss) { l.Keys(5) }},
		{"a server with App, not confirmed", api.Server, func(l *Loss) { l.Sent(5, api.App, asking(1)) }},
		{"a client that is confirmed", api.Client, func(l *Loss) { l.Confirm(5) }},
		{"a client that had one of Handshake", api.Client, func(l *Loss) { l.Sent(5, api.Handshake, asking(1)); l.Ack(5, api.Handshake, frame(0, 0)) }},
		{"a client that had a padded one of Handshake", api.Client, func(l *Loss) { l.Sent(5, api.Handshake, padded(1)); l.Ack(5, api.Handshake, frame(0, 0)) }},
	} {
		l := made(t, plain(), c.role)
		l.Blocked(4, false)
		c.turn(l)
		idle(t, "P14.6: "+c.say, l)
		l.Drop(6, api.Initial)
		idle(t, "P14.6: Initial is dropped: "+c.say, l)
	}
}

// The fifth case: a client that isn't sure is never silent.
func TestSilentClient(t *testing.T) {
	l := made(t, plain(), api.Client)
	l.Blocked(7, false)
	waits(t, "P14.6: without keys", l, asks, api.Initial, 300007)
	l.Blocked(9, false)
	waits(t, "P14.6: it goes with the clock", l, asks, api.Initial, 300009)
	l.Events()
	l.Blocked(9, false)
	events(t, "P14.6: the same timer", l)
	l.Keys(9)
	events(t, "P14.6: another space", l, api.Event{Kind: api.EvTimer, Time: 9, Space: api.Handshake, A: 300009, B: 2})
	send(t, l, 10, api.App, asking(1))
	waits(t, "P14.6: App isn't confirmed", l, asks, api.Handshake, 300010)
	l.Peer(api.Params{AckDelay: 5000})
	send(t, l, 11, api.Initial, padded(1))
	waits(t, "P14.6: one that is padded", l, asks, api.Handshake, 300011)
	ack(t, l, 12, api.Initial, 0, 0)
	waits(t, "P14.6: Initial is acknowledged", l, asks, api.Handshake, 300012)
	l.Drop(13, api.Initial)
	waits(t, "P14.6: Initial is dropped", l, asks, api.Handshake, 300013)
	l.Drop(14, api.Handshake)
	waits(t, "P14.6: by the words, in Handshake even if it is dropped", l, asks, api.Handshake, 300014)
	if x := l.Timeout(300014); x.Kind != asks || x.Space != api.Handshake || x.Probes != 2 {
		t.Errorf("P14.7: a silent client: %+v", x)
	}
	waits(t, "P14.7: a silent client, once more", l, asks, api.Handshake, 900014)
	l.Confirm(300015)
	waits(t, "P14.8: Confirm, and App is under way", l, asks, api.App, 300014+610000)
}

// COUNT doubles the span of every timer of probes, up to the cap; and goes on.
func TestCountDoubles(t *testing.T) {
	for _, c := range []struct {
		say  string
		turn func(t *testing.T) (*Loss, int)
	}{
		{"a server", func(t *testing.T) (*Loss, int) {
			l := server(t)
			send(t, l, 0, api.Handshake, asking(1))
			return l, api.Handshake
		}},
		{"a silent client", func(t *testing.T) (*Loss, int) {
			l := made(t, plain(), api.Client)
			l.Blocked(0, false)
			return l, api.Initial
		}},
	} {
		l, in := c.turn(t)
		at := int64(0)
		for i := range 200 {
			span := int64(3000000)
			if i < 4 {
				span = 300000 << i
			}
			at += span
			waits(t, "P14.6: "+c.say, l, asks, in, at)
			l.Events()
			if x := l.Timeout(at); x.Kind != asks || x.Space != in || x.Probes != 2 || x.Lost != nil {
				t.Fatalf("P14.7: %s: expiry %d: %+v", c.say, i, x)
			}
			if v := l.View(); v.Count != i+1 {
				t.Fatalf("P14.7: %s: expiry %d: COUNT is %d", c.say, i, v.Count)
			}
			events(t, "P14.7: "+c.say, l,
				api.Event{Kind: api.EvProbe, Time: at, Space: in, A: int64(i) + 1},
				api.Event{Kind: api.EvTimer, Time: at, Space: in, A: at + min(int64(300000)<<min(i+1, 4), 3000000), B: 2})
		}
	}
}

// The caps of the span: below Base, at it, and at its double.
func TestCaps(t *testing.T) {
	for _, c := range []struct{ most, first, second int64 }{
		{1000, 1000, 1000}, {299999, 299999, 299999}, {300000, 300000, 300000}, {300001, 300000, 300001},
		{599999, 300000, 599999}, {600000, 300000, 600000}, {600001, 300000, 600000}, {api.MaxSpan, 300000, 600000},
	} {
		o := plain()
		o.MaxPTO = c.most
		l := made(t, o, api.Server)
		send(t, l, 0, api.Initial, asking(1))
		waits(t, "P14.6: a cap", l, asks, api.Initial, c.first)
		l.Timeout(c.first)
		waits(t, "P14.6: a cap, behind an expiry", l, asks, api.Initial, c.first+c.second)
	}
}

// Ahead of its deadline a timer is nothing; at it and behind it, it is due, and the next one is reckoned from the clock.
func TestTimeout(t *testing.T) {
	for _, now := range []int64{299999, 300000, 300001, 900000, api.MaxTime} {
		l := server(t)
		send(t, l, 0, api.Initial, asking(1))
		ahead := look(l)
		x := l.Timeout(now)
		if now < 300000 {
			ahead.own.clock = now
			same(t, "P14.7: ahead of the deadline", l, ahead)
			if !reflect.DeepEqual(x, api.Expiry{}) {
				t.Errorf("P14.7: ahead of the deadline: %+v", x)
			}
			continue
		}
		if x.Kind != asks || x.Probes != 2 {
			t.Errorf("P14.7: Timeout(%d) = %+v", now, x)
		}
		waits(t, "P14.7: behind it", l, asks, api.Initial, now+600000)
	}
	l := server(t)
	ahead := look(l)
	if x := l.Timeout(77); !reflect.DeepEqual(x, api.Expiry{}) {
		t.Errorf("P14.7: there is no timer: %+v", x)
	}
	ahead.own.clock = 77
	same(t, "P14.7: there is no timer", l, ahead)
}

// A time that has been told already counts as the clock.
func TestTimeoutOfATimeThatFalls(t *testing.T) {
	l := server(t)
	send(t, l, 0, api.Initial, asking(1))
	send(t, l, 400000, api.Initial, bare())
	if x := l.Timeout(5); x.Kind != asks {
		t.Errorf("R5: the clock is behind the deadline: %+v", x)
	}
	waits(t, "R5: from the clock on", l, asks, api.Initial, 1000000)
}

// Deadline is moved by nothing but the calls that set the timer.
func TestDeadlineStays(t *testing.T) {
	l := made(t, plain(), api.Client)
	l.Keys(5)
	for _, call := range []func(){
		func() { l.Peer(api.Params{AckDelay: 1000, AckExp: 5}) },
		func() { l.Limited(false) },
		func() { l.Sent(100, api.Initial, bare()) },
		func() { l.Ack(200, api.Initial, frame(0, 0)) },
		func() { l.Timeout(300) },
		func() { l.Next(0); l.May(0, 1); l.View(); l.Period(); l.Events() },
		func() { l.Drop(400, 3) },
	} {
		call()
		waits(t, "P14.7: a call that doesn't set the timer", l, asks, api.Handshake, 300005)
	}
}

// A probe's answer: of each space the two oldest that are Eliciting, whichever the timer is of; they stay kept.
func TestAgain(t *testing.T) {
	l := server(t)
	send(t, l, 0, api.Handshake, padded(1), asking(21), bare(), padded(1), asking(22), asking(23))
	send(t, l, 10, api.Initial, padded(1), asking(11))
	send(t, l, 20, api.App, asking(31), asking(32), asking(33))
	// From the first expiry on all spaces are alike, and Initial is the lowest one.
	for _, in := range []int{api.Handshake, api.Initial, api.Initial} {
		ahead := l.View()
		x := l.Timeout(l.Deadline())
		if x.Kind != asks || x.Space != in || x.Probes != 2 || x.Lost != nil {
			t.Errorf("P14.7: a probe of %d: %+v", in, x)
		}
		tells(t, "P14.7: Again of Initial", x.Again[api.Initial], 1)
		tells(t, "P14.7: Again of Handshake", x.Again[api.Handshake], 1, 4)
		tells(t, "P14.7: Again of App", x.Again[api.App], 0, 1)
		if want := (api.Sent{Number: 4, Size: 22, Eliciting: true, Counted: true, Told: -1}); !reflect.DeepEqual(x.Again[api.Handshake][1], want) {
			t.Errorf("P14.7: Again: %+v, want %+v", x.Again[api.Handshake][1], want)
		}
		if v := l.View(); v.Spaces != ahead.Spaces || v.Window != ahead.Window {
			t.Errorf("P14.7: they stay kept: %+v, and was %+v", v, ahead)
		}
	}
	l.Drop(l.clock, api.Initial)
	x := l.Timeout(l.Deadline())
	tells(t, "P14.7: Again of a space that was dropped", x.Again[api.Initial])
	tells(t, "P14.7: Again of Handshake, behind a Drop", x.Again[api.Handshake], 1, 4)
}

// A loss timer's answer: what is lost in its space; neither COUNT nor PROBED are others for it.
func TestLossExpiry(t *testing.T) {
	l := server(t)
	send(t, l, 0, api.Handshake, asking(1))
	l.Timeout(300000)
	late(t, l, 300100, api.Initial)
	late(t, l, 300100, api.App)
	l.Events()
	x := l.Timeout(412600)
	if x.Kind != loses || x.Space != api.Initial || x.Probes != 0 || !reflect.DeepEqual(x.Again, [3][]api.Sent{}) {
		t.Errorf("P14.7: a loss timer: %+v", x)
	}
	tells(t, "P14.7: a loss timer", x.Lost, 0)
	events(t, "P14.7: a loss timer", l,
		api.Event{Kind: api.EvLost, Time: 412600},
		api.Event{Kind: api.EvWindow, Time: 412600, A: 6000, B: 6000},
		api.Event{Kind: api.EvTimer, Time: 412600, Space: api.App, A: 412600, B: 1})
	x = l.Timeout(412600)
	if x.Kind != loses || x.Space != api.App {
		t.Errorf("P14.7: the other space's: %+v", x)
	}
	tells(t, "P14.7: the other space's", x.Lost, 0)
	// The acknowledgements were a server's: COUNT was 0 ahead of it; PROBED is 300000.
	waits(t, "P14.7: behind it", l, asks, api.Handshake, 600000)
	l = made(t, plain(), api.Client)
	send(t, l, 0, api.Initial, asking(1))
	l.Timeout(300000)
	late(t, l, 300100, api.App)
	l.Timeout(412600)
	if got := l.View().Count; got != 1 {
		t.Errorf("P14.7: a loss timer leaves COUNT: %d, want 1", got)
	}
	waits(t, "P14.7: a loss timer leaves COUNT and PROBED", l, asks, api.Initial, 900000)
}

// What is looked for is by the DELAY that there is then: nothing may be lost yet.
func TestLossExpiryOfNothing(t *testing.T) {
	l := server(t)
	send(t, l, 0, api.Handshake, asking(1))
	late(t, l, 100000, api.Initial)
	waits(t, "P14.5: by DELAY ahead of a sample", l, loses, api.Initial, 212500)
	ack(t, l, 200000, api.Handshake, 0, 0)
	waits(t, "P14.6: another space's sample leaves LOSS", l, loses, api.Initial, 212500)
	l.Events()
	if x := l.Timeout(212500); !reflect.DeepEqual(x, api.Expiry{Kind: loses, Space: api.Initial}) {
		t.Errorf("P14.7: nothing is lost yet: %+v", x)
	}
	events(t, "P14.7: nothing is lost yet", l, api.Event{Kind: api.EvTimer, Time: 212500, A: 325000, B: 1})
	tells(t, "P14.7: it is now", l.Timeout(325000).Lost, 0)
}

// What follows: asked at each deadline, each probe expiry is at most c.MaxPTO behind the last one.
func TestProbesGoOn(t *testing.T) {
	for _, most := range []int64{1000, 250000, 3000000, 50000000} {
		for _, role := range []int{api.Client, api.Server} {
			o := plain()
			o.MaxPTO = most
			l := made(t, o, role)
			l.Peer(api.Params{AckDelay: 700000})
			send(t, l, 0, api.App, asking(1))
			late(t, l, 100, api.Initial)
			send(t, l, 500, api.App, asking(1))
			if role == api.Server {
				l.Confirm(600)
			}
			last := int64(-1)
			for range 60 {
				at := l.Deadline()
				x := l.Timeout(at)
				if x.Kind != asks {
					continue
				}
				if last >= 0 && (at <= last || at > last+most) {
					t.Errorf("What follows: a probe expiry at %d, the one ahead of it at %d, the cap %d", at, last, most)
				}
				last = at
			}
			if last < 0 {
				t.Error("What follows: no probe expired")
			}
		}
	}
}

// A timer that is the same is not told again; one that differs in its kind, space or deadline alone is.
func TestTimerEvents(t *testing.T) {
	l := server(t)
	send(t, l, 0, api.Initial, asking(1))
	send(t, l, 0, api.Handshake, asking(1))
	l.Events()
	l.Keys(5)
	l.Blocked(6, false)
	l.Confirm(7)
	events(t, "P14.6: the same timer", l)
	l.Drop(8, api.Initial)
	events(t, "P14.6: another space alone", l,
		api.Event{Kind: api.EvDropped, Time: 8},
		api.Event{Kind: api.EvTimer, Time: 8, Space: api.Handshake, A: 300000, B: 2})
	send(t, l, 9, api.Handshake, asking(1))
	events(t, "P14.6: another deadline alone", l,
		api.Event{Kind: api.EvSent, Time: 9, Space: api.Handshake, Number: 1, Size: 1},
		api.Event{Kind: api.EvTimer, Time: 9, Space: api.Handshake, A: 300009, B: 2})
	// A cap of 100000 is what both kinds wait for.
	o := plain()
	o.MaxPTO = 100000
	l = made(t, o, api.Server)
	send(t, l, 0, api.Initial, asking(1), padded(1))
	l.Events()
	ack(t, l, 1, api.Initial, 1, 1)
	events(t, "P14.6: another kind alone", l,
		api.Event{Kind: api.EvAcked, Time: 1, Number: 1},
		api.Event{Kind: api.EvTimer, Time: 1, A: 100000, B: 1})
	if !slices.Equal(l.Events(), nil) {
		t.Error("P14.10: told twice")
	}
}
