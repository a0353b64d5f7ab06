package loss

import (
	"slices"
	"testing"

	"portage/api"
)

// A packet is lost if it was sent DELAY ago or longer, ahead of one that was acknowledged.
func TestLostByTime(t *testing.T) {
	for _, c := range []struct {
		say   string
		most  int64 // c.MaxPTO
		sent  int64
		now   int64 // when the one behind it is acknowledged, which is no sample
		lost  bool
		delay int64
	}{
		{"DELAY ago", 3000000, 1000, 113500, true, 112500},
		{"less by one", 3000000, 1001, 113500, false, 112500},
		{"more by one", 3000000, 999, 113500, true, 112500},
		{"as it begins", 3000000, 0, 112500, true, 112500},
		{"as it begins, less by one", 3000000, 0, 112499, false, 112500},
		{"at once", 3000000, 0, 0, false, 112500},
		{"capped", 1000, 500, 1500, true, 1000},
		{"capped, less by one", 1000, 501, 1500, false, 1000},
		{"capped, long ago", 1000, 0, 100000, true, 1000},
		{"the cap just below", 112499, 10, 112509, true, 112499},
		{"the cap just above", 112501, 10, 112509, false, 112500},
	} {
		for space := range api.Spaces {
			o := plain()
			o.MaxPTO = c.most
			l := made(t, o, api.Server)
			send(t, l, c.sent, space, asking(70), padded(30))
			l.Events()
			out := ack(t, l, c.now, space, 1, 1)
			tells(t, "P14.4: "+c.say, out.Acked, 1)
			if c.lost {
				tells(t, "P14.5: "+c.say, out.Lost, 0)
				idle(t, "P14.5: "+c.say, l)
				windows(t, "P14.5: "+c.say, l, 6000, 6000, 0, c.now)
				continue
			}
			tells(t, "P14.5: "+c.say, out.Lost)
			windows(t, "P14.5: "+c.say, l, 12000, api.MaxNumber, 70, -1)
			waits(t, "P14.5: "+c.say, l, loses, space, c.sent+c.delay)
			if got := l.View().Spaces[space].Loss; got != c.sent+c.delay {
				t.Errorf("P14.5: %s: LOSS is %d, want %d", c.say, got, c.sent+c.delay)
			}
		}
	}
}

// DELAY is by the sample that the acknowledgement itself is.
func TestLostByTheNewSample(t *testing.T) {
	for _, c := range []struct {
		sent int64
		lost bool
	}{{43750, true}, {43751, false}} {
		l := server(t)
		send(t, l, c.sent, api.App, asking(1))
		send(t, l, 50000, api.App, asking(1))
		// A round trip of 50000: lost is what was sent 56250 ago.
		out := ack(t, l, 100000, api.App, 1, 1)
		if (len(out.Lost) == 1) != c.lost {
			t.Errorf("P14.5: sent at %d: lost are %d", c.sent, numbers(out.Lost))
		}
	}
	// Another space's sample counts, too.
	l := server(t)
	send(t, l, 0, api.App, asking(1))
	ack(t, l, 8000, api.App, 0, 0)
	send(t, l, 8000, api.Initial, asking(1), padded(1))
	ack(t, l, 8010, api.Initial, 1, 1)
	waits(t, "P14.5: a sample of another space", l, loses, api.Initial, 8000+9000)
}

// A packet is lost if one was acknowledged whose number is greater by 3 or more.
func TestLostByNumber(t *testing.T) {
	for _, c := range []struct {
		ends []int64
		lost []int64
		left []int64 // those below the greatest one that are not
	}{
		{[]int64{10, 10}, nil, nil},
		{[]int64{11, 11}, nil, []int64{10}},
		{[]int64{12, 12}, nil, []int64{10, 11}},
		{[]int64{13, 13}, []int64{10}, []int64{11, 12}},
		{[]int64{14, 14}, []int64{10, 11}, []int64{12, 13}},
		{[]int64{16, 16}, []int64{10, 11, 12, 13}, []int64{14, 15}},
		{[]int64{16, 16, 11, 14}, []int64{10}, []int64{15}},
		{[]int64{11, 12, 17, 17}, []int64{10, 13, 14}, []int64{15, 16}},
		{[]int64{10, 17}, nil, nil},
	} {
		for space := range api.Spaces {
			o := plain()
			o.First[space] = 10
			l := made(t, o, api.Server)
			for i := range int64(9) {
				send(t, l, 100+i, space, padded(1))
			}
			out := ack(t, l, 200, space, c.ends...)
			tells(t, "P14.5: by number", out.Lost, c.lost...)
			want := int64(-1)
			if len(c.left) > 0 {
				want = 100 + c.left[0] - 10 + 112500
			}
			if got := l.View().Spaces[space].Loss; got != want {
				t.Errorf("P14.5: %d acknowledged: LOSS is %d, want %d", c.ends, got, want)
			}
		}
	}
}

// Nothing above the greatest number that was acknowledged is lost, however old it is; nor is anything in another space.
func TestNotLost(t *testing.T) {
	l := server(t)
	for space := range api.Spaces {
		send(t, l, 0, space, asking(1), padded(1), asking(1), asking(1))
	}
	out := ack(t, l, 5000000, api.Handshake, 1, 1)
	tells(t, "P14.5: below the greatest one", out.Lost, 0)
	for space, want := range [][]int64{{0, 1, 2, 3}, {2, 3}, {0, 1, 2, 3}} {
		tells(t, "P14.5: kept still", slices.Collect(l.spaces[space].Kept()), want...)
		if got := l.View().Spaces[space].Loss; got != -1 {
			t.Errorf("P14.5: LOSS of %d is %d, want -1", space, got)
		}
	}
}

// The greatest number that counts is the greatest one ever acknowledged, not the frame's.
func TestLostBelowTheGreatestEver(t *testing.T) {
	l := server(t)
	for range 7 {
		send(t, l, 0, api.App, padded(1))
	}
	tells(t, "P14.5: the greatest", ack(t, l, 1, api.App, 5, 5).Lost, 0, 1, 2)
	tells(t, "P14.5: an older one", ack(t, l, 2, api.App, 3, 3).Lost)
	waits(t, "P14.5: an older one", l, loses, api.App, 112500)
	tells(t, "P14.5: an older one, late", ack(t, l, 112500, api.App, 4, 4).Lost)
	idle(t, "P14.5: none is below it", l)
	tells(t, "P14.5: the last", ack(t, l, 112500, api.App, 6, 6).Acked, 6)
}

// LOSS is of the first one that isn't lost, and is reckoned anew by each that looks.
func TestLossTime(t *testing.T) {
	l := server(t)
	send(t, l, 10, api.App, asking(1))
	send(t, l, 20, api.App, padded(1))
	send(t, l, 30, api.App, padded(1))
	send(t, l, 40, api.App, padded(1))
	ack(t, l, 50, api.App, 2, 2)
	waits(t, "P14.5: 0 and 1 are left", l, loses, api.App, 112510)
	ack(t, l, 60, api.App, 1, 1)
	waits(t, "P14.5: 0 is left", l, loses, api.App, 112510)
	ack(t, l, 112509, api.App, 3, 3)
	idle(t, "P14.5: 0 is lost by its number", l)
	send(t, l, 200000, api.App, padded(1))
	send(t, l, 200500, api.App, padded(1), padded(1))
	ack(t, l, 200500, api.App, 6, 6)
	waits(t, "P14.5: 4 and 5 are left", l, loses, api.App, 312500)
	tells(t, "P14.7: at 4's time", l.Timeout(312500).Lost, 4)
	waits(t, "P14.7: 5 is left", l, loses, api.App, 313000)
	tells(t, "P14.7: at 5's time", l.Timeout(313000).Lost, 5)
	idle(t, "P14.7: none is left", l)
}

// Of each that is lost its Size leaves the flight, and the window is cut, by the greatest Time among them.
func TestLostCuts(t *testing.T) {
	for _, curved := range []bool{false, true} {
		o := plain()
		o.Cubic = curved
		sizes := []int64{12000, 6000, 3000}
		if curved {
			sizes = []int64{12000, 8400, 5880}
		}
		l := made(t, o, api.Server)
		for i := range int64(5) {
			send(t, l, 10*i, api.App, padded(100<<i))
		}
		tells(t, "P14.5: 0 and 1", ack(t, l, 45, api.App, 4, 4).Lost, 0, 1)
		windows(t, "P14.5: 0 and 1", l, sizes[1], sizes[1], 400+800, 45)
		send(t, l, 50, api.App, padded(3200))
		l.Events()
		// 2 and 3 went out at 20 and 30, ahead of the cut at 45; 5 behind it.
		send(t, l, 60, api.App, padded(1), padded(1), padded(1))
		tells(t, "P14.5: 2 and 3", ack(t, l, 61, api.App, 6, 6).Lost, 2, 3)
		windows(t, "P14.5: sent ahead of the cut", l, sizes[1], sizes[1], 3200+2, 45)
		events(t, "P14.5: sent ahead of the cut", l,
			api.Event{Kind: api.EvSent, Time: 60, Space: api.App, Number: 6, Size: 1},
			api.Event{Kind: api.EvSent, Time: 60, Space: api.App, Number: 7, Size: 1},
			api.Event{Kind: api.EvSent, Time: 60, Space: api.App, Number: 8, Size: 1},
			api.Event{Kind: api.EvLost, Time: 61, Space: api.App, Number: 2},
			api.Event{Kind: api.EvLost, Time: 61, Space: api.App, Number: 3},
			api.Event{Kind: api.EvAcked, Time: 61, Space: api.App, Number: 6},
			api.Event{Kind: api.EvTimer, Time: 61, Space: api.App, A: 112550, B: 1})
		tells(t, "P14.5: 5", ack(t, l, 62, api.App, 8, 8).Lost, 5)
		windows(t, "P14.5: sent behind the cut", l, sizes[2], sizes[2], 1, 62)
	}
}

// The greatest Time among them, not the least one, is held against the cut.
func TestLostCutsByTheLatest(t *testing.T) {
	for _, c := range []struct{ second, began int64 }{{45, 45}, {46, 60}} {
		l := server(t)
		for range 5 {
			send(t, l, 10, api.App, padded(1))
		}
		ack(t, l, 45, api.App, 3, 3)
		windows(t, "P14.5: 0 is lost", l, 6000, 6000, 3, 45)
		send(t, l, c.second, api.App, padded(1))
		send(t, l, 60, api.App, padded(1), padded(1), padded(1))
		tells(t, "P14.5: 1 to 5", ack(t, l, 60, api.App, 8, 8).Lost, 1, 2, 4, 5)
		if got := l.View().Window.Began; got != c.began {
			t.Errorf("P14.5: the last one went out at %d, the cut was at 45: Began is %d, want %d", c.second, got, c.began)
		}
	}
}

// trip is a confirmed one behind a first round trip of 30000, at 30000: Base is 90000, and what is sent 33750 ago is lost.
func trip(t *testing.T) *Loss {
	t.Helper()
	l := confirmed(t)
	send(t, l, 0, api.App, asking(1000))
	ack(t, l, 30000, api.App, 0, 0)
	l.Events()
	return l
}

// A gone is a packet that is sent at a time.
type gone struct {
	at   int64
	kind byte // Asking, Padded, Bare; a: it is acknowledged
}

func TestPersistent(t *testing.T) {
	for _, c := range []struct {
		say    string
		putOff int64
		sent   []gone
		is     bool
	}{
		{"thrice the span", 0, []gone{{40000, 'A'}, {310000, 'A'}}, false},
		{"more by one", 0, []gone{{40000, 'A'}, {310001, 'A'}}, true},
		{"with what the other end puts off", 1000, []gone{{40000, 'A'}, {313000, 'A'}}, false},
		{"with that, more by one", 1000, []gone{{40000, 'A'}, {313001, 'A'}}, true},
		{"one alone", 0, []gone{{40000, 'A'}}, false},
		{"three of them, the outer ones", 0, []gone{{40000, 'A'}, {200000, 'A'}, {310001, 'A'}}, true},
		{"three of them, not far enough", 0, []gone{{40000, 'A'}, {200000, 'A'}, {310000, 'A'}}, false},
		{"four of them, the last two", 0, []gone{{40000, 'A'}, {50000, 'A'}, {60000, 'A'}, {330001, 'A'}}, true},
		{"the first one padded", 0, []gone{{40000, 'P'}, {310001, 'A'}}, false},
		{"the last one padded", 0, []gone{{40000, 'A'}, {310001, 'P'}}, false},
		{"a padded one between", 0, []gone{{40000, 'A'}, {50000, 'P'}, {310001, 'A'}}, true},
		{"a padded one ahead of them", 0, []gone{{40000, 'P'}, {50000, 'A'}, {320000, 'A'}}, false},
		{"a bare one between", 0, []gone{{40000, 'A'}, {50000, 'B'}, {310001, 'A'}}, true},
		{"sent as the first sample was taken", 0, []gone{{30000, 'A'}, {310001, 'A'}}, false},
		{"sent behind it", 0, []gone{{30001, 'A'}, {300002, 'A'}}, true},
		{"sent as it was taken, and another one behind it", 0, []gone{{30000, 'A'}, {30001, 'A'}, {300002, 'A'}}, true},
		{"one acknowledged between", 0, []gone{{40000, 'A'}, {41000, 'a'}, {310001, 'A'}}, false},
		{"one acknowledged ahead of them", 0, []gone{{39000, 'a'}, {40000, 'A'}, {310001, 'A'}}, true},
		{"one acknowledged between, far behind it", 0, []gone{{40000, 'A'}, {41000, 'a'}, {50000, 'A'}, {320001, 'A'}}, true},
		{"one acknowledged between, not far enough behind it", 0, []gone{{40000, 'A'}, {41000, 'a'}, {50000, 'A'}, {320000, 'A'}}, false},
		{"two stretches that are short", 0, []gone{{40000, 'A'}, {41000, 'A'}, {42000, 'a'}, {300000, 'A'}, {320000, 'A'}}, false},
	} {
		for _, late := range []bool{false, true} {
			l := trip(t)
			l.Peer(api.Params{AckDelay: c.putOff})
			if got := persists(t, l, c.sent, late); got != c.is {
				t.Errorf("P14.5: %s (by a timer: %t): persistent congestion is %t, want %t", c.say, late, got, c.is)
			}
		}
	}
}

// persists sends these, and lets all that isn't acknowledged be lost at once: by an acknowledgement that is no sample, or by a timer. Was it persistent congestion?
func persists(t *testing.T, l *Loss, sent []gone, late bool) bool {
	t.Helper()
	if late {
		send(t, l, 30000, api.App, padded(1), padded(1))
		ack(t, l, 30000, api.App, 2, 2)
	}
	f := frame()
	for _, g := range sent {
		next, _ := l.Next(api.App)
		switch {
		case g.kind == 'A':
			send(t, l, g.at, api.App, asking(1))
		case g.kind == 'P' || g.kind == 'a' && !late:
			send(t, l, g.at, api.App, padded(1))
		default:
			// Behind an acknowledgement of bare ones nothing is looked for.
			send(t, l, g.at, api.App, bare())
		}
		if g.kind == 'a' {
			f.Runs = append(f.Runs, api.Run{Lo: next, Hi: next})
		}
	}
	last := padded(1)
	if late {
		last = bare()
	}
	send(t, l, l.clock+40000, api.App, last)
	next, _ := l.Next(api.App)
	f.Runs = append(f.Runs, api.Run{Lo: next - 1, Hi: next - 1})
	take(t, l, l.clock+40000, api.App, f)
	if late {
		x := l.Timeout(l.clock)
		if x.Kind != loses || len(x.Lost) == 0 {
			t.Errorf("P14.7: %+v, want a loss timer", x)
		}
	}
	return slices.ContainsFunc(l.Events(), func(e api.Event) bool { return e.Kind == api.EvCollapse })
}

// What persistent congestion does: the window falls to two datagrams, and the least round trip begins anew.
func TestCollapse(t *testing.T) {
	l := trip(t)
	l.Limited(false)
	send(t, l, 40000, api.App, asking(1000))
	send(t, l, 400000, api.App, asking(1000))
	send(t, l, 440000, api.App, padded(900))
	l.Events()
	ack(t, l, 480000, api.App, 3, 3)
	// It was cut to 6000 first; behind the collapse nothing was sent ahead of a cut, and 3 raises the window.
	windows(t, "P14.5: the collapse", l, 3300, 6000, 0, -1)
	events(t, "P14.5: the collapse", l,
		api.Event{Kind: api.EvLost, Time: 480000, Space: api.App, Number: 1},
		api.Event{Kind: api.EvLost, Time: 480000, Space: api.App, Number: 2},
		api.Event{Kind: api.EvCollapse, Time: 480000, Space: api.App},
		api.Event{Kind: api.EvAcked, Time: 480000, Space: api.App, Number: 3},
		api.Event{Kind: api.EvWindow, Time: 480000, A: 3300, B: 6000},
		api.Event{Kind: api.EvTimer, Time: 480000, A: api.Never})
	send(t, l, 500000, api.App, asking(1))
	ack(t, l, 570000, api.App, 4, 4)
	if got := l.View().RTT.Least; got != 70000 {
		t.Errorf("P14.5: behind the collapse Least is %d, want 70000", got)
	}
}

// By a timer it is alike, and with the other controller.
func TestCollapseByTheTimer(t *testing.T) {
	o := plain()
	o.Cubic = true
	l := made(t, o, api.Server)
	send(t, l, 0, api.Handshake, asking(1000))
	ack(t, l, 30000, api.Handshake, 0, 0)
	send(t, l, 40000, api.Handshake, asking(1000))
	send(t, l, 40001, api.Handshake, padded(1))
	ack(t, l, 40002, api.Handshake, 2, 2)
	send(t, l, 400000, api.Handshake, asking(1000), padded(1))
	ack(t, l, 400000, api.Handshake, 4, 4)
	windows(t, "P14.5: 1 alone is lost", l, 8400, 8400, 1000, 400000)
	send(t, l, 400001, api.Handshake, asking(1000))
	send(t, l, 800000, api.Handshake, asking(1000), bare(), bare())
	waits(t, "P14.5: 3 is left", l, loses, api.Handshake, 433750)
	// Of numbers that weren't kept nothing is looked for, but they are the greatest from now on.
	ack(t, l, 800000, api.Handshake, 8, 8)
	l.Events()
	x := l.Timeout(833750)
	tells(t, "P14.7: what the timer finds", x.Lost, 3, 5, 6)
	windows(t, "P14.5: the collapse", l, 2400, 5880, 0, -1)
	events(t, "P14.5: the collapse", l,
		api.Event{Kind: api.EvLost, Time: 833750, Space: api.Handshake, Number: 3},
		api.Event{Kind: api.EvLost, Time: 833750, Space: api.Handshake, Number: 5},
		api.Event{Kind: api.EvLost, Time: 833750, Space: api.Handshake, Number: 6},
		api.Event{Kind: api.EvCollapse, Time: 833750, Space: api.Handshake},
		api.Event{Kind: api.EvWindow, Time: 833750, A: 2400, B: 5880},
		api.Event{Kind: api.EvTimer, Time: 833750, A: api.Never})
}

// Without a sample there is no persistent congestion.
func TestNoCollapseAheadOfASample(t *testing.T) {
	l := server(t)
	send(t, l, 10, api.App, asking(1000))
	send(t, l, 2000000, api.App, asking(1000))
	send(t, l, 2200000, api.App, padded(1))
	out := ack(t, l, 2400000, api.App, 2, 2)
	tells(t, "P14.5: no sample", out.Lost, 0, 1)
	windows(t, "P14.5: no sample", l, 6000, 6000, 0, 2400000)
}

// The span is by the sample that the acknowledgement itself is, and no first sample lets one collapse: what was sent behind it can't be lost yet.
func TestPersistentByTheNewSample(t *testing.T) {
	for _, c := range []struct {
		trip int64
		is   bool
	}{{30000, true}, {200000, false}} {
		l := trip(t)
		send(t, l, 40000, api.App, asking(1))
		send(t, l, 340000, api.App, asking(1))
		send(t, l, 600000, api.App, asking(1))
		// Smooth 30000 and Var 11250, so thrice 75000; or 51250 and 53750, so thrice 266250.
		ack(t, l, 600000+c.trip, api.App, 3, 3)
		if got := l.View().Window.Size == 2400; got != c.is {
			t.Errorf("P14.5: a round trip of %d: persistent congestion is %t, want %t", c.trip, got, c.is)
		}
	}
}

// It is looked for among what one call finds in one space.
func TestPersistentOfOneCall(t *testing.T) {
	l := trip(t)
	send(t, l, 40000, api.App, asking(1))
	send(t, l, 60000, api.App, padded(1))
	tells(t, "P14.5: one", ack(t, l, 73750, api.App, 2, 2).Lost, 1)
	send(t, l, 400000, api.App, asking(1))
	send(t, l, 400001, api.App, padded(1))
	tells(t, "P14.5: another one", ack(t, l, 440000, api.App, 4, 4).Lost, 3)
	windows(t, "P14.5: two calls", l, 3000, 3000, 0, 440000)
	l = trip(t)
	send(t, l, 40000, api.Initial, asking(1), padded(1))
	send(t, l, 400000, api.App, asking(1), padded(1))
	tells(t, "P14.5: one space", ack(t, l, 440000, api.Initial, 1, 1).Lost, 0)
	tells(t, "P14.5: another space", ack(t, l, 440000, api.App, 2, 2).Lost, 1)
	windows(t, "P14.5: two spaces", l, 6000, 6000, 0, 440000)
}

// What was acknowledged between is what the ledger knows of still: of more than MaxSent runs the lowest go.
func TestPersistentByWhatIsTold(t *testing.T) {
	for _, c := range []struct {
		many int64
		is   bool
	}{{254, false}, {255, true}} {
		l := trip(t)
		send(t, l, 40000, api.App, asking(1), padded(1))
		ack(t, l, 40000, api.App, 2, 2)
		send(t, l, 320001, api.App, asking(1))
		for i := range c.many {
			send(t, l, 320001, api.App, bare(), bare())
			ack(t, l, 320001, api.App, 5+2*i, 5+2*i)
		}
		send(t, l, 320001, api.App, bare(), padded(1))
		// With 0, 2 and this one there are three more.
		out := ack(t, l, 360001, api.App, 5+2*c.many, 5+2*c.many)
		tells(t, "P14.5: lost", out.Lost, 1, 3)
		if got := l.View().Window.Size == 2400; got != c.is {
			t.Errorf("P14.5: %d runs above: persistent congestion is %t, want %t", c.many, got, c.is)
		}
	}
}
