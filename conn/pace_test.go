package conn

import (
	"reflect"
	"testing"

	"portage/api"
)

// paced is a client behind the handshake, with a pacer; a round trip took 10000.
func paced(t *testing.T, burst int64) (*Conn, int64) {
	t.Helper()
	set := func(c *api.Config) { c.Pace, c.Burst, c.Capacity = true, burst, 65536 }
	c, s := made(t, changed(0, set), 0), made(t, changed(1, set), 1)
	now := int64(0)
	for range 8 {
		for _, x := range [][2]*Conn{{c, s}, {s, c}} {
			x[0].Timeout(now)
			var l [][]byte
			for b, _, ok := x[0].Send(now); ok; b, _, ok = x[0].Send(now) {
				l = append(l, b)
			}
			now += 5000
			for _, b := range l {
				x[1].Receive(now, b, api.Unmarked)
			}
		}
	}
	v := c.View()
	if !v.Confirmed || v.Recovery.RTT.Smooth != 10000 || v.Recovery.Window.Flight != 0 {
		t.Fatalf("the handshake: %+v", v)
	}
	return c, now
}

func pacerOf(e *Conn) string { return dump(reflect.ValueOf(e.end.pacer)) }

// C5, C6: a burst goes at once, then a datagram each time that the pacer says; Deadline tells when.
func TestPacer(t *testing.T) {
	c, now := paced(t, 2400)
	id, _ := c.Open(true)
	c.Write(id, make([]byte, 16384))
	for range 2 {
		b, _ := sends(t, "C5: the burst", c, now)
		is(t, "C5: whole datagrams", len(b), 1200)
	}
	// A window of 12000 in 10000, and a quarter more: 1.5 bytes flow in in one.
	is(t, "C5: the window is as ever", c.View().Recovery.Window.Size, 12000)
	for range 4 {
		at := now + 800
		silent(t, "C5: the pacer", c, now)
		is(t, "C6: Deadline", c.Deadline(), at)
		silent(t, "C5: ahead of it", c, at-1)
		b, _ := sends(t, "C5: it may go", c, at)
		is(t, "C5: whole datagrams", len(b), 1200)
		now = at
	}
	silent(t, "C5: one alone", c, now)
	// The credit of a probe passes it by.
	c.end.credit, c.end.in = 2, api.App
	ahead := pacerOf(c)
	for range 2 {
		sends(t, "C5: a probe", c, now)
	}
	is(t, "C5: probes aren't spent", pacerOf(c), ahead)
	silent(t, "C5: no third one", c, now)
	// So does an ack that is due.
	hears(t, c, now, ping())
	hears(t, c, now, ping())
	ahead = pacerOf(c)
	_, l := sends(t, "C5: an ack", c, now)
	is(t, "C5: an ack alone", kinds(l[0]), []int{api.KAck})
	is(t, "C5: acks aren't spent", pacerOf(c), ahead)
	is(t, "C6: Deadline", c.Deadline(), now+800)
	// What nobody waits for needs no time.
	c, now = paced(t, 2400)
	id, _ = c.Open(true)
	c.Write(id, make([]byte, 2300))
	sends(t, "C5: the burst", c, now)
	sends(t, "C5: the burst", c, now)
	is(t, "C6: nothing waits", c.Deadline(), c.View().Recovery.Deadline)
	// The window is full: the pacer's time isn't waited for.
	c, now = paced(t, 100000)
	id, _ = c.Open(true)
	c.Write(id, make([]byte, 16384))
	for range 10 {
		sends(t, "C5: the window", c, now)
	}
	silent(t, "C5: the window is full", c, now)
	is(t, "C6: the window is full", c.Deadline(), c.View().Recovery.Deadline)
}

// C5: what isn't a whole datagram waits for a whole one, and is spent as what it is.
func TestPacerOfSmallOnes(t *testing.T) {
	c, now := paced(t, 2400)
	id, _ := c.Open(true)
	left := c.end.pacer.Left(now)
	is(t, "P12: a full bucket", left, 2400)
	for range 3 {
		c.Write(id, []byte("abc"))
		if left < 1200 {
			silent(t, "C5: it waits for a whole one", c, now)
			break
		}
		b, _ := sends(t, "C5: a small one", c, now)
		left -= int64(len(b))
		is(t, "C5: it is spent", c.end.pacer.Left(now), left)
	}
	c.Write(id, make([]byte, 1170))
	b, _ := sends(t, "C5: a greater one", c, now)
	left -= int64(len(b))
	c.Write(id, []byte("abc"))
	is(t, "C5: less than a whole one is left", left < 1200, true)
	silent(t, "C5: it waits for a whole one", c, now)
	// The lack flows in at 1.5 bytes in one.
	is(t, "C6: Deadline", c.Deadline(), now+((1200-left)*2+2)/3)
}

// C5: counted packets alone are spent: of a datagram with an ack alone ahead of them, not that.
func TestPacerOfCounted(t *testing.T) {
	c := made(t, changed(0, func(c *api.Config) { c.Pace = true }), 0)
	b, _ := sends(t, "HELLO", c, 0)
	is(t, "C5: HELLO is spent", c.end.pacer.Left(0), 12000-1200)
	s := server(t)
	s.Receive(0, b, api.Unmarked)
	b, _ = sends(t, "ANSWER", s, 0)
	c.Receive(0, b, api.Unmarked)
	b, l := sends(t, "C5: an ack, and DONE", c, 0)
	is(t, "C5: an ack, and DONE", []any{kinds(l[0]), kinds(l[1])}, []any{[]int{api.KAck}, []int{api.KAck, api.KCrypto}})
	is(t, "C5: DONE's packet is spent", c.end.pacer.Left(0), 12000-1200-int64(len(b))+21)
}

// The pacer's rate: as the end is made that of the first window and InitialRTT, or MaxPTO, if that is less.
func TestFirstRate(t *testing.T) {
	for _, x := range []struct{ rtt, cap, most int64 }{{100000, 1000000, 150}, {100000, 50000, 300}, {1000, 1000000, 15000}, {60000000, 1 << 36, 0}} {
		c := made(t, changed(0, func(c *api.Config) { c.Pace, c.Burst, c.InitialRTT, c.MaxPTO = true, 2400, x.rtt, x.cap }), 0)
		sends(t, "HELLO", c, 0)
		is(t, "C5: what is left", c.end.pacer.Left(0), 1200)
		is(t, "Words: the first rate", c.end.pacer.Left(1000), 1200+min(x.most, 1200))
	}
}

// The pacer's rate is set at the end of a Receive or Timeout that has turned it, and of no other one.
func TestRateIsSet(t *testing.T) {
	c, now := paced(t, 2400)
	id, _ := c.Open(true)
	c.Write(id, make([]byte, 16384))
	sends(t, "C5: the burst", c, now)
	_, l := sends(t, "C5: the burst", c, now)
	now++ // Something is beside whole bytes then.
	c.Send(now)
	ahead := pacerOf(c)
	c.Receive(now, []byte("nothing"), api.Unmarked)
	hears(t, c, now, ping(), api.Frame{Kind: api.KMaxData, Limit: 99999})
	c.Timeout(now)
	is(t, "Words: nothing turned", pacerOf(c), ahead)
	// The round trip turns, and so does the window.
	hears(t, c, now+3000, ack(l[0].Number, l[0].Number))
	v := c.View().Recovery
	is(t, "Words: both turned", []bool{v.RTT.Smooth < 10000, v.Window.Size > 12000}, []bool{true, true})
	left := c.end.pacer.Left(now + 3000)
	is(t, "Words: at the old rate till then", left, min(2400, 3001*3/2))
	for range 2 {
		sends(t, "C5: the burst", c, now+3000)
	}
	is(t, "Words: at the new rate", c.Deadline(), now+3000+(1200*4*v.RTT.Smooth+5*v.Window.Size-1)/(5*v.Window.Size))
	// A Timeout that finds losses cuts the window.
	c, now = paced(t, 2400)
	id, _ = c.Open(true)
	c.Write(id, make([]byte, 16384))
	for range 2 {
		_, l = sends(t, "C5: the burst", c, now)
	}
	hears(t, c, now+10000, ack(l[0].Number, l[0].Number))
	v = c.View().Recovery
	is(t, "P14.6: a loss timer", v.Kind, api.ExpiryLoss)
	c.Timeout(v.Deadline)
	u := c.View().Recovery
	is(t, "P14.5: the window is cut", u.Window.Size < v.Window.Size, true)
	for range 2 {
		sends(t, "C5: the burst", c, 0)
	}
	is(t, "Words: at the new rate", c.Deadline(), min(u.Deadline, v.Deadline+(1200*4*u.RTT.Smooth+5*u.Window.Size-1)/(5*u.Window.Size)))
}

// Without a pacer all goes at once that the window lets.
func TestNoPacer(t *testing.T) {
	c := filled(t)
	is(t, "C5: no pacer", c.end.pacer == nil, true)
}
