package conn

import (
	"testing"

	"portage/api"
	"portage/hand"
)

// C9: View in each state, of both roles.
func TestViewInEachState(t *testing.T) {
	for role := range 2 {
		for state, e := range stated(t, role) {
			v := e.View()
			at := 50000 + 3*period(e, 25000)
			want := api.ConnView{State: state, Role: role, Complete: true, Confirmed: true, Validated: true, Open: [3]bool{false, false, true},
				IdleAt: api.Never, EndAt: api.Never, Got: v.Got, Sent: v.Sent, There: []byte{9}, Recovery: e.end.loss.View(), Held: 5 + 16}
			switch state {
			case api.StateClosing:
				want.Code, want.Own, want.Reason, want.EndAt = 7, true, []byte("bye"), at
			case api.StateDraining:
				want.Code, want.Kind, want.Told, want.Reason, want.EndAt = 8, 6, true, []byte("why"), at
			case api.StateOver:
				want.Code, want.Own, want.Told = 8, true, true
			}
			// An ack of a stream's piece waits, or was told: so many packets are kept as loss says.
			want.Held += 64 * int64(v.Recovery.Spaces[2].Kept)
			is(t, "C9: View", bare(v), want)
			unchanged(t, "C9: View changes nothing", e, func() { e.View(); e.Deadline(); e.Streams(); e.Stream(0); e.Stream(1) })
		}
	}
}

// C9: View on the way through the handshake.
func TestViewOfHandshake(t *testing.T) {
	c, s := client(t), server(t)
	look := func(say string, e *Conn, open [3]bool, complete, confirmed, validated bool, there string, held int64) {
		t.Helper()
		v := e.View()
		is(t, "C9: "+say, []any{v.Open, v.Complete, v.Confirmed, v.Validated, string(v.There), v.Held},
			[]any{open, complete, confirmed, validated, there, held})
	}
	look("a client", c, [3]bool{true, false, false}, false, false, true, "", 32)
	look("a server", s, [3]bool{true, false, false}, false, false, false, "", 0)
	b, _ := sends(t, "HELLO", c, 0)
	look("HELLO is sent", c, [3]bool{true, false, false}, false, false, true, "", 32+64)
	s.Receive(0, b, api.Unmarked)
	look("HELLO came", s, [3]bool{true, true, false}, false, false, false, "\x09", 2+34+16)
	b, _ = sends(t, "ANSWER, TERMS, DONE", s, 0)
	look("ANSWER, TERMS, DONE are sent", s, [3]bool{true, true, false}, false, false, false, "\x09", 2+34+16+128)
	c.Receive(0, b, api.Unmarked)
	look("ANSWER, TERMS, DONE came", c, [3]bool{true, true, true}, true, false, true, "\x09", 2+32)
	b, _ = sends(t, "DONE", c, 0)
	look("DONE is sent", c, [3]bool{false, true, true}, true, false, true, "\x09", 2+16+64)
	s.Receive(0, b, api.Unmarked)
	look("DONE came", s, [3]bool{false, false, true}, true, true, true, "\x09", 0)
	b, _ = sends(t, "the server's DONE", s, 0)
	look("the server's DONE is sent", s, [3]bool{false, false, true}, true, true, true, "\x09", 64)
	c.Receive(0, b, api.Unmarked)
	look("the server's DONE came", c, [3]bool{false, false, true}, true, true, true, "\x09", 16)
	is(t, "C9: Got and Sent", []int64{c.View().Got, c.View().Sent}, []int64{s.View().Sent, s.View().Got})
}

// C9: the credit's space is 0, if there is no credit.
func TestViewOfCredit(t *testing.T) {
	c, _ := met(t, nil)
	for credit := range 3 {
		for in := range 3 {
			c.end.credit, c.end.in = credit, in
			want := in
			if credit == 0 {
				want = 0
			}
			is(t, "C9: Credit and In", []int{c.View().Credit, c.View().In}, []int{credit, want})
		}
	}
}

// C9: Streams, Stream and Events are what the layers say.
func TestStreamsAndEvents(t *testing.T) {
	c, s := met(t, nil)
	for _, uni := range []bool{true, false, true, false} {
		c.Open(uni)
	}
	is(t, "C9: rising", c.Streams(), []int64{0, 2, 4, 6})
	c.Write(4, []byte("abc"))
	v, err := c.Stream(4)
	is(t, "C9: Stream", []any{v.ID, v.Send.Written, v.Urgency, err}, []any{int64(4), int64(3), 3, api.OK})
	is(t, "C9: no streams", len(s.Streams()), 0)
	if len(c.Events()) == 0 {
		t.Error("C9: there were events")
	}
	is(t, "C9: each is told once", len(c.Events()), 0)
	_, l := sends(t, "C5: pieces", c, 50000)
	e := c.Events()
	is(t, "C9: what was sent", []any{e[0].Kind, e[0].Space, e[0].Number, e[0].Time}, []any{api.EvSent, 2, l[0].Number, int64(50000)})
}

// C9, C11: Held at its greatest: each stream's buffer is full, nothing is read, and all else is kept that may be.
func TestGreatestHeld(t *testing.T) {
	for _, capacity := range []int{1, 3000, 65536} {
		set := func(c *api.Config) {
			c.Capacity, c.Bidi, c.Uni, c.Data = capacity, 32, 32, 50000
			c.StreamOwn, c.StreamHis, c.StreamUni = 1<<20, 1<<20, 1<<20
		}
		c, s := made(t, changed(0, set), 0), made(t, changed(1, set), 1)
		b, _ := sends(t, "HELLO", c, 0)
		s.Receive(0, b, api.Unmarked)
		b, _ = sends(t, "ANSWER, TERMS, DONE", s, 0)
		c.Receive(0, b, api.Unmarked)
		c.Receive(0, datagram(t, short(0, payload(t, api.Frame{Kind: api.KStream, Stream: 4*31 + 1, Offset: 1, Data: make([]byte, 1)}))), api.Unmarked)
		for i := range int64(96) {
			id := 4*(i-64) + 1
			if i < 64 {
				id, _ = c.Open(i >= 32)
			}
			is(t, "C2: Write", c.Write(id, make([]byte, capacity)), api.OK)
		}
		// The other end's bytes, none of which can be read: the first one of each stream is missing.
		at := int64(2)
		for n := int64(49997); n > 0; n -= 1000 {
			f := api.Frame{Kind: api.KStream, Stream: 1, Offset: 49998 - n, Data: make([]byte, min(n, 1000))}
			c.Receive(0, datagram(t, short(at, payload(t, f))), api.Unmarked)
			at += 2
		}
		// In the spaces of the handshake so many bytes ahead as may be, and numbers with holes between.
		c.Receive(0, datagram(t, long(0, "\x09", 2, payload(t, crypto(3, string(make([]byte, 4095)))))), api.Unmarked)
		c.Receive(0, datagram(t, long(1, "\x09", 2, payload(t, crypto(37, string(make([]byte, 4093)))))), api.Unmarked)
		for i := range int64(40) {
			for space := range 2 {
				c.Receive(0, datagram(t, long(space, "\x09", 4+2*i, payload(t, padding(1)))), api.Unmarked)
			}
			c.Receive(0, datagram(t, short(at+2*i, payload(t, padding(1)))), api.Unmarked)
		}
		lives(t, "C11: so far", c)
		for space := range 3 {
			for range 300 {
				c.end.loss.Sent(0, space, api.Sent{Size: 50, Counted: true, Told: -1})
			}
		}
		v := c.View()
		handHeld := c.end.hand.Held()
		if handHeld < 8000 {
			t.Errorf("H7: %d bytes alone", handHeld)
		}
		is(t, "C9: packets", []int{v.Recovery.Spaces[0].Kept, v.Recovery.Spaces[1].Kept, v.Recovery.Spaces[2].Kept}, []int{256, 256, 256})
		is(t, "C9: Held", v.Held, 96*int64(capacity)+49998+handHeld+64*768+16*96)
		if bound := 96*int64(capacity) + 50000 + 62976; v.Held > bound || v.Held < bound-5000 {
			t.Errorf("C11: %d of %d", v.Held, bound)
		}
	}
}

// C9: Held of each of its parts.
func TestHeldParts(t *testing.T) {
	c, _ := met(t, nil)
	ahead := c.View().Held
	id, _ := c.Open(false)
	c.Write(id, make([]byte, 1000))
	is(t, "C9: what was written", c.View().Held, ahead+1000)
	sends(t, "C5: a piece", c, 50000)
	is(t, "C9: a packet", c.View().Held, ahead+1064)
	hears(t, c, 50000, ack(c.View().Recovery.Spaces[2].Next-1, c.View().Recovery.Spaces[2].Next-1))
	held := c.View().Held
	at := next(c, 2)
	c.Receive(50000, datagram(t, short(at+1, payload(t, padding(1)))), api.Unmarked)
	is(t, "C9: one more run", c.View().Held, held+16)
	c.Receive(50000, datagram(t, short(at, payload(t, padding(1)))), api.Unmarked)
	is(t, "C9: the hole is closed", c.View().Held, held)
	hears(t, c, 50000, api.Frame{Kind: api.KStream, Stream: 1, Data: make([]byte, 70)})
	is(t, "C9: what isn't read", c.View().Held, held+70)
	c.Read(1, 30)
	is(t, "C9: what isn't read", c.View().Held, held+40)
	// What the handshake holds.
	s := server(t)
	h, _ := hand.New(api.Server, config(1).Params)
	is(t, "C9: a new server", s.View().Held, h.Held())
	s.Receive(0, datagram(t, long(0, "\x05", 0, payload(t, crypto(5, "abcdefg")))), api.Unmarked)
	is(t, "C9: a piece of HELLO, and a run", s.View().Held, 7+16)
}
