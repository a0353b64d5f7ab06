package conn

import (
	"testing"

	"portage/api"
)

// C6, idle: each end's alone, both, none, and less than three periods.
func TestIdleSpan(t *testing.T) {
	for _, x := range []struct{ own, theirs, span int64 }{
		{0, 0, 0}, {5000000, 0, 5000000}, {0, 5000000, 5000000}, {5000000, 6000000, 5000000}, {6000000, 5000000, 5000000},
		{5000000, 5000000, 5000000}, {1, 0, 1}, {0, 1, 1}, {api.MaxSpan, 7000000, 7000000}, {api.MaxSpan, api.MaxSpan, api.MaxSpan}, {5000000, 1, 1},
	} {
		for role := range 2 {
			own, theirs := changed(role, func(c *api.Config) { c.Idle = x.own }), changed(1-role, func(c *api.Config) { c.Idle = x.theirs })
			e, other := made(t, own, role), made(t, theirs, 1-role)
			want := func(say string, span, putOff, from int64) {
				t.Helper()
				at := int64(api.Never)
				if span > 0 {
					at = from + max(span, 3*period(e, putOff))
				}
				is(t, "C6: the idle time, "+say, e.View().IdleAt, at)
			}
			want("as its own alone is known", x.own, 0, 0)
			exchange(t, e, other, 0)
			want("as both are known", x.span, 25000, 0)
			hears(t, e, 40000, ping())
			want("as both are known", x.span, 25000, 40000)
		}
	}
}

// C6: as the idle time is due it is over, without a word; ahead of that it isn't.
func TestIdleIsOver(t *testing.T) {
	for role := range 2 {
		for _, behind := range []int64{0, 1, 1 << 40} {
			both := [2]*Conn{}
			both[0], both[1] = met(t, func(c *api.Config) { c.Idle = 5000000 })
			e := both[role]
			at := e.View().IdleAt
			is(t, "C6: Deadline", e.Deadline(), at)
			e.Timeout(at - 1)
			lives(t, "C6: ahead of it", e)
			silent(t, "C6: ahead of it", e, at-1)
			e.Timeout(at + behind)
			v := e.View()
			is(t, "C6: over", []any{v.State, v.IdleAt, v.EndAt, v.Code, v.Told}, []any{api.StateOver, int64(api.Never), int64(api.Never), int64(0), false})
			is(t, "C6: over", e.Deadline(), api.Never)
			silent(t, "C6: without a word", e, at+behind)
			e.Timeout(api.MaxTime)
			is(t, "C6: over stays", e.View().State, api.StateOver)
		}
	}
	// It counts ahead of loss's timer, though that is due, too.
	c := made(t, changed(0, func(c *api.Config) { c.Idle = 1 }), 0)
	sends(t, "HELLO", c, 0)
	is(t, "C6: both", []int64{c.View().IdleAt, c.Deadline()}, []int64{900000, 300000})
	c.Timeout(900000)
	is(t, "C6: over", []any{c.View().State, c.View().Credit}, []any{api.StateOver, 0})
	// That it is due changes nothing of what comes and goes, till Timeout is asked.
	c, _ = met(t, func(c *api.Config) { c.Idle = 5000000 })
	hears(t, c, 9000000, ping())
	hears(t, c, 9000000, ping())
	is(t, "C3: it goes on", c.View().IdleAt, 14000000)
	sends(t, "C5: the ack", c, 9000000)
}

// C5: the first packet that elicits behind one that was processed sets the idle time anew, no other one does.
func TestIdleBySend(t *testing.T) {
	idle := func(c *api.Config) { c.Idle = 5000000 }
	c, _ := met(t, idle)
	id, _ := c.Open(true)
	hears(t, c, 60000, padding(1))
	at := c.View().IdleAt
	hears(t, c, 70000, ping())
	c.Send(95000)
	is(t, "C5: an ack alone", c.View().IdleAt, at+10000)
	for i, want := range []int64{5100000, 5100000, 5100000} {
		c.Write(id, []byte("a"))
		sends(t, "C5: a piece", c, 100000+int64(i))
		is(t, "C5: the first one", c.View().IdleAt, want)
	}
	// What is passed over isn't processed.
	c.Receive(110000, datagram(t, short(next(c, 2)-1, payload(t, ping()))), api.Unmarked)
	c.Write(id, []byte("a"))
	sends(t, "C5: a piece", c, 120000)
	is(t, "C5: not the first one", c.View().IdleAt, 5100000)
	hears(t, c, 130000, padding(1))
	is(t, "C3: processed", c.View().IdleAt, 5130000)
	c.Write(id, []byte("a"))
	sends(t, "C5: a piece", c, 140000)
	is(t, "C5: the first one", c.View().IdleAt, 5140000)
	c.Write(id, []byte("a"))
	sends(t, "C5: a piece", c, 150000)
	is(t, "C5: the second one", c.View().IdleAt, 5140000)
	// HELLO is the first one of all; a padded ack doesn't elicit.
	c = made(t, changed(0, idle), 0)
	is(t, "C1: the idle time", c.View().IdleAt, 5000000)
	sends(t, "HELLO", c, 300)
	is(t, "C5: HELLO", c.View().IdleAt, 5000300)
	c.Timeout(c.Deadline())
	sends(t, "HELLO again", c, 0)
	is(t, "C5: HELLO again", c.View().IdleAt, 5000300)
}

// C6: Timeout ahead of, at and behind loss's deadline: a probe.
func TestProbeTimeout(t *testing.T) {
	for _, behind := range []int64{-1, 0, 1, 100000} {
		c := client(t)
		sends(t, "HELLO", c, 0)
		unchanged(t, "C6: ahead of it", c, func() { c.Timeout(0) })
		c.Timeout(300000 + behind)
		v := c.View()
		if behind < 0 {
			is(t, "C6: ahead of it", []int{v.Credit, v.Recovery.Count}, []int{0, 0})
			silent(t, "C6: ahead of it", c, 299999)
			continue
		}
		is(t, "C6: a probe", []int{v.Credit, v.In, v.Recovery.Count}, []int{2, api.Initial, 1})
		_, l := sends(t, "C6: HELLO again", c, 0)
		is(t, "C6: HELLO again", []any{kinds(l[0]), l[0].Number, c.View().Credit}, []any{[]int{api.KCrypto}, int64(1), 1})
		// The second one has nothing to tell: a ping, in 1200 bytes.
		b, l := sends(t, "C6: a ping", c, 0)
		is(t, "C6: a ping", []any{kinds(l[0]), len(b), c.View().Credit, c.View().In}, []any{[]int{api.KPing}, 1200, 0, 0})
		silent(t, "C6: no third one", c, 0)
		// Behind the next expiry two again, whatever was left.
		c.Timeout(c.Deadline())
		sends(t, "C6: HELLO again", c, 0)
		c.Timeout(c.Deadline())
		is(t, "C6: two again", c.View().Credit, 2)
	}
}

// C6: probes of each space; of one that isn't the credit's no ping goes.
func TestProbesOfSpaces(t *testing.T) {
	// A client whose HELLO is acknowledged, and no ANSWER came: Initial.
	c := client(t)
	sends(t, "HELLO", c, 0)
	c.Receive(10, datagram(t, long(0, "\x09", 0, payload(t, ack(0, 0)))), api.Unmarked)
	c.Timeout(c.Deadline())
	is(t, "C6: Initial", []int{c.View().Credit, c.View().In}, []int{2, api.Initial})
	for range 2 {
		b, l := sends(t, "C5: a ping", c, 0)
		is(t, "C5: a ping", []any{len(b), spaces(l), kinds(l[0])[len(kinds(l[0]))-1]}, []any{1200, []int{0}, api.KPing})
	}
	silent(t, "C5: no third one", c, 0)
	// One that has ANSWER: Handshake. Initial is dropped by the first of them, and nothing goes there.
	c = answered(t)
	c.Receive(10, datagram(t, long(0, "\x09", 1, payload(t, ack(0, 0)))), api.Unmarked)
	is(t, "P14.6: Handshake", c.View().Recovery.In, api.Handshake)
	c.Timeout(c.Deadline())
	is(t, "C6: Handshake", []int{c.View().Credit, c.View().In}, []int{2, api.Handshake})
	_, l := sends(t, "C5: an ack and a ping", c, 0)
	is(t, "C5: an ack and a ping", []any{spaces(l), kinds(l[0]), kinds(l[1])}, []any{[]int{0, 1}, []int{api.KAck}, []int{api.KPing}})
	is(t, "C5: Initial is dropped", []any{c.View().Open, c.View().Credit, c.View().In}, []any{[3]bool{false, true, false}, 1, 1})
	b, l := sends(t, "C5: a ping", c, 0)
	is(t, "C5: a ping", []any{spaces(l), kinds(l[0]), len(b)}, []any{[]int{1}, []int{api.KPing}, 16})
	silent(t, "C5: no third one", c, 0)
	// App.
	c, _ = met(t, nil)
	hears(t, c, 50000, api.Frame{Kind: api.KChallenge, Data: []byte("12345678")})
	sends(t, "C5: a response", c, 50000)
	c.Timeout(c.Deadline())
	is(t, "C6: App", []int{c.View().Credit, c.View().In}, []int{2, api.App})
	for range 2 {
		_, l = sends(t, "C5: a ping", c, 0)
		is(t, "C5: a ping", kinds(l[0]), []int{api.KPing})
	}
	silent(t, "C5: no third one", c, 0)
	// As another space tells something no ping goes, and what is told is a probe.
	s := greeted(t, 1200)
	s.end.credit, s.end.in = 2, api.Initial
	_, l = sends(t, "C5: ANSWER", s, 0)
	is(t, "C5: no ping", []any{spaces(l), kinds(l[0]), kinds(l[1]), s.View().Credit}, []any{[]int{0, 1}, []int{api.KAck, api.KCrypto}, []int{api.KCrypto}, 1})
	s.end.in = api.Handshake
	s.end.hand.Lost(0, api.Frame{Kind: api.KCrypto, Size: 2})
	_, l = sends(t, "C5: ANSWER", s, 0)
	is(t, "C5: no ping in Handshake", []any{spaces(l), kinds(l[0]), s.View().Credit}, []any{[]int{0}, []int{api.KCrypto}, 0})
}

// C5: probes go though the window is full; an ack alone takes no credit.
func TestProbesBeyondTheWindow(t *testing.T) {
	c := filled(t)
	c.Timeout(c.Deadline())
	hears(t, c, c.end.clock, ping())
	hears(t, c, c.end.clock, ping())
	for i := range 2 {
		b, _ := sends(t, "C5: a probe", c, 0)
		v := c.View()
		is(t, "C5: beyond the window", v.Recovery.Window.Flight, 12000+int64(i+1)*int64(len(b)))
		is(t, "C5: the credit", v.Credit, 1-i)
	}
	silent(t, "C5: no third one", c, 0)
	at := c.View().Recovery.Spaces[2].Next
	o, _ := c.end.loss.Ack(c.end.clock, 2, ack(at-3, at-3))
	is(t, "C5: what went ahead is no probe", o.Acked[0].Probe, false)
	o, _ = c.end.loss.Ack(c.end.clock, 2, ack(at-2, at-1))
	is(t, "C5: both are probes", []bool{o.Acked[0].Probe, o.Acked[1].Probe}, []bool{true, true})
	// An ack alone.
	c, _ = met(t, nil)
	hears(t, c, 50000, ping())
	hears(t, c, 50000, ping())
	c.end.credit, c.end.in = 2, api.Initial
	_, l := sends(t, "C5: an ack alone", c, 50000)
	is(t, "C5: an ack alone", []any{kinds(l[0]), c.end.credit}, []any{[]int{api.KAck}, 2})
}

// C6: packets that are lost by time: what they told is told again.
func TestLossTimeout(t *testing.T) {
	for _, behind := range []int64{-1, 0, 5} {
		c, _ := met(t, nil)
		id, _ := c.Open(true)
		var last []sight
		for _, text := range []string{"ab", "cd"} {
			c.Write(id, []byte(text))
			_, last = sends(t, "C5: a piece", c, 50000)
		}
		hears(t, c, 50400, ack(last[0].Number, last[0].Number))
		v := c.View().Recovery
		is(t, "P14.6: a loss timer", []any{v.Kind, c.Deadline()}, []any{api.ExpiryLoss, v.Deadline})
		c.Timeout(v.Deadline + behind)
		if behind < 0 {
			silent(t, "C6: ahead of it", c, 0)
			continue
		}
		is(t, "C6: no credit", c.View().Credit, 0)
		_, l := sends(t, "C6: told again", c, 0)
		is(t, "C6: told again", l[0].frames[1:], []api.Frame{{Kind: api.KStream, Stream: id, Data: []byte("ab")}})
		silent(t, "C6: once", c, 0)
	}
}

// C6: Deadline is the least of all that is waited for, but for an ack that is due.
func TestDeadline(t *testing.T) {
	c, _ := met(t, func(c *api.Config) { c.Idle = 5000000 })
	is(t, "C6: the idle time", c.Deadline(), c.View().IdleAt)
	hears(t, c, 60000, ping())
	is(t, "C6: an ack", c.Deadline(), 85000)
	c.Send(84999)
	is(t, "C6: an ack still", c.Deadline(), 85000)
	c.Timeout(85000)
	is(t, "C6: it is due, and needs no timer", c.Deadline(), c.View().IdleAt)
	_, l := sends(t, "C5: the ack", c, 85000)
	is(t, "C5: the ack", kinds(l[0]), []int{api.KAck})
	is(t, "C6: it was told", c.Deadline(), c.View().IdleAt)
	hears(t, c, 90000, ping())
	id, _ := c.Open(true)
	c.Write(id, []byte("a"))
	is(t, "C6: without a pacer nothing waits for a time", c.Deadline(), 115000)
	sends(t, "C5: a piece", c, 90000)
	is(t, "C6: loss's", []any{c.Deadline(), c.View().Recovery.Kind}, []any{c.View().Recovery.Deadline, api.ExpiryProbe})
	// The handshake's acks are due at once.
	s := greeted(t, 1200)
	is(t, "C6: none", s.Deadline(), api.Never)
	// A deadline that has passed is told as it is.
	c = client(t)
	sends(t, "HELLO", c, 0)
	c.Receive(400000, nil, api.Unmarked)
	is(t, "C6: it has passed", c.Deadline(), 300000)
}

// C6, C8: three periods behind a close, of its own or of the other end, it is over; as they were then.
func TestEnds(t *testing.T) {
	for role := range 2 {
		for _, state := range []int{api.StateClosing, api.StateDraining} {
			for _, behind := range []int64{-1, 0, 1, 1 << 40} {
				e := stated(t, role)[state]
				at := 50000 + 3*period(e, 25000)
				v := e.View()
				is(t, "C8: its end", []int64{v.EndAt, v.IdleAt, e.Deadline()}, []int64{at, api.Never, at})
				e.Timeout(at + behind)
				if behind < 0 {
					is(t, "C6: ahead of it", []any{e.View().State, e.Deadline()}, []any{state, at})
					continue
				}
				u := e.View()
				is(t, "C6: over", []any{u.State, u.EndAt, u.IdleAt, e.Deadline()}, []any{api.StateOver, int64(api.Never), int64(api.Never), int64(api.Never)})
				is(t, "C9: what is known stays", []any{u.Code, u.Own, u.Told, u.Kind, string(u.Reason), u.Credit, u.Held, u.Recovery},
					[]any{v.Code, v.Own, v.Told, v.Kind, string(v.Reason), v.Credit, v.Held, v.Recovery})
			}
		}
	}
	// Ahead of any sample a period is three times the first estimate.
	c := client(t)
	c.Close(77, 1, nil)
	is(t, "C8: its end", c.Deadline(), 77+900000)
	// With a lower cap.
	c = made(t, changed(0, func(c *api.Config) { c.MaxPTO = 5000 }), 0)
	c.Close(77, 1, nil)
	is(t, "C8: its end", c.Deadline(), 77+15000)
}

// C8: timers of loss and seen stand still, as it closes or drains.
func TestTimersStandStill(t *testing.T) {
	for _, state := range []int{api.StateClosing, api.StateDraining} {
		c, _ := met(t, nil)
		id, _ := c.Open(true)
		c.Write(id, []byte("abc"))
		sends(t, "C5: a piece", c, 50000)
		hears(t, c, 50000, ping())
		at := c.View().Recovery.Deadline
		if state == api.StateClosing {
			c.Close(50000, 7, nil)
			sends(t, "C5: the close", c, 50000)
		} else {
			hears(t, c, 50000, api.Frame{Kind: api.KClose, Own: true, Code: 7})
		}
		if at >= c.Deadline() {
			t.Fatalf("the probe at %d isn't ahead of the end at %d", at, c.Deadline())
		}
		ahead := c.View()
		c.Timeout(at)
		silent(t, "C8: nothing but the close", c, at)
		is(t, "C8: timers stand still", c.View(), ahead)
	}
}

// C7: a space that is dropped takes the probe credit with it, if it was of that space.
func TestDropTakesCredit(t *testing.T) {
	for in := range 3 {
		for space := range 2 {
			c := agreed(t)
			c.end.credit, c.end.in = 2, in
			c.end.drop(space)
			want := 2
			if in == space {
				want = 0
			}
			v := c.View()
			is(t, "C7: the credit", v.Credit, want)
			is(t, "C9: its space", v.In, map[bool]int{true: in, false: 0}[want > 0])
			is(t, "C7: dropped", []any{v.Open[space], v.Recovery.Spaces[space].Open, c.end.seen[space] == nil, c.end.hand.Open(space)}, []any{false, false, true, false})
		}
	}
	// A client's probe in Handshake, and it is confirmed meanwhile.
	c := agreed(t)
	sends(t, "DONE", c, 0)
	c.Timeout(c.Deadline())
	is(t, "C6: Handshake", []int{c.View().Credit, c.View().In}, []int{2, 1})
	c.Receive(c.end.clock, datagram(t, short(0, payload(t, api.Frame{Kind: api.KDone}))), api.Unmarked)
	is(t, "C7: the credit is gone", []int{c.View().Credit, c.View().In}, []int{0, 0})
}
