package conn

import (
	"testing"

	"portage/api"
	"portage/loss"
)

// may sets how many bytes a server that isn't validated may send.
func may(s *Conn, n int64) { s.end.sent = 3*s.end.got - n }

// filled is a client behind the handshake whose window is full, with more to send.
func filled(t *testing.T) *Conn {
	t.Helper()
	c, _ := met(t, nil)
	id, _ := c.Open(false)
	is(t, "C2: Write", c.Write(id, make([]byte, 16384)), api.OK)
	n := int64(0)
	for range 10 {
		b, _ := sends(t, "C5: as far as the window goes", c, 50000)
		n += int64(len(b))
	}
	silent(t, "C5: the window is full", c, 50000)
	w := c.View().Recovery.Window
	is(t, "C10: flight", []int64{w.Flight, w.Size}, []int64{n, 12000})
	return c
}

// C5: an end that drains or is over sends nothing, whatever waits; a live one that has nothing to tell neither.
func TestSilent(t *testing.T) {
	for role := range 2 {
		for state, e := range stated(t, role) {
			if state == api.StateDraining || state == api.StateOver {
				unchanged(t, "C5: nothing", e, func() { silent(t, "C5: draining, over", e, 50000) })
			}
		}
		e := []*Conn{client(t), server(t)}[role]
		e.Send(0)
		e.Send(0)
		unchanged(t, "C5: nothing to tell", e, func() { silent(t, "C5: nothing to tell", e, 0) })
	}
}

// C5: the mark of each datagram, of one that closes, too.
func TestMarkOfDatagrams(t *testing.T) {
	for _, marks := range []bool{false, true} {
		want := api.Unmarked
		if marks {
			want = api.Capable
		}
		set := func(c *api.Config) { c.Marks = marks }
		c, s := made(t, changed(0, set), 0), made(t, changed(1, set), 1)
		n := 0
		for range 4 {
			for _, x := range [][2]*Conn{{c, s}, {s, c}} {
				for b, mark, ok := x[0].Send(0); ok; b, mark, ok = x[0].Send(0) {
					is(t, "C5: the mark", mark, want)
					x[1].Receive(0, b, mark)
					n++
				}
			}
		}
		if n < 4 {
			t.Errorf("%d datagrams", n)
		}
		c.Close(0, 1, nil)
		_, mark, ok := c.Send(0)
		is(t, "C5: the mark of a close", []any{mark, ok}, []any{want, true})
	}
}

// C5: every datagram with an Initial packet that elicits has 1200 bytes, another one has as many as it needs.
func TestPadding(t *testing.T) {
	for _, mtu := range []int{1200, 1201, 9000} {
		c := made(t, changed(0, func(c *api.Config) { c.MTU, c.Burst = mtu, 20000 }), 0)
		b, l := sends(t, "HELLO", c, 0)
		is(t, "C5: 1200 bytes", len(b), 1200)
		is(t, "C5: padding", l[0].frames[1], padding(1149))
		is(t, "C9: its size", c.View().Recovery.Spaces[0].Flight, 1200)
	}
	// An Initial packet that doesn't elicit.
	c := client(t)
	sends(t, "HELLO", c, 0)
	c.Receive(0, datagram(t, long(0, "\x09", 0, payload(t, ping()))), api.Unmarked)
	b, l := sends(t, "C5: an ack alone", c, 0)
	is(t, "C5: an ack alone", []any{len(b), l[0].frames}, []any{21, []api.Frame{ack(0, 0)}})
	is(t, "C9: it isn't counted", c.View().Recovery.Spaces[0].Flight, 1200)
	// A Handshake packet alone, though it elicits.
	c = agreed(t)
	c.end.drop(api.Initial)
	b, l = sends(t, "DONE", c, 0)
	is(t, "C5: no padding", []any{len(b), kinds(l[0])}, []any{len(datagram(t, l[0].Packet)), []int{api.KAck, api.KCrypto}})
}

// C5: the last packet is padded, of whatever space, and is counted then, though it is an ack alone.
func TestPaddedAck(t *testing.T) {
	c := answered(t)
	// HELLO is to be told again, and an ack of Handshake is due.
	c.Timeout(c.Deadline())
	c.Receive(0, datagram(t, long(1, "\x09", 0, payload(t, ping()))), api.Unmarked)
	is(t, "C6: a probe", c.View().Credit, 2)
	c.Events()
	b, l := sends(t, "C5: both", c, 0)
	is(t, "C5: both", []any{len(b), spaces(l), kinds(l[0]), kinds(l[1])}, []any{1200, []int{0, 1}, []int{api.KAck, api.KCrypto}, []int{api.KAck}})
	v := c.View().Recovery
	is(t, "C5: the ack is counted, as it was padded", []any{v.Spaces[1].Kept, v.Spaces[1].Waiting, v.Spaces[1].Flight}, []any{1, 0, int64(len(datagram(t, l[1].Packet)))})
	is(t, "C7: the credit was of Initial", c.end.credit, 0)
	for _, e := range c.Events() {
		if e.Kind == api.EvSent && e.Space == api.Handshake {
			is(t, "C9: its size", e.Size, v.Spaces[1].Flight)
		}
	}
	o, _ := c.end.loss.Ack(0, 1, ack(0, 0))
	is(t, "C5: as loss knows it", []any{len(o.Acked), o.Acked[0].Eliciting, o.Acked[0].Counted, o.Acked[0].Probe, o.Acked[0].Told}, []any{1, false, true, true, int64(0)})
	// The Handshake packet drops Initial, once all were told.
	is(t, "C5: Initial is dropped", c.View().Open[0], false)
	is(t, "C7: its flight is gone", v.Spaces[0].Flight, 0)
}

// C5: what loss is told of a packet.
func TestAsLossKnows(t *testing.T) {
	c, s := met(t, nil)
	hears(t, c, 50000, ping())
	a := next(c, 2) - 1
	id, _ := c.Open(false)
	c.Write(id, []byte("hello"))
	c.Fin(id)
	b, l := sends(t, "C5: ack and piece", c, 50000)
	n := l[0].Number
	o, _ := c.end.loss.Ack(50000, 2, ack(n, n))
	is(t, "C5: as loss knows it", o.Acked, []api.Sent{{Number: n, Time: 50000, Size: int64(len(b)), Eliciting: true, Counted: true, Told: a, Frames: []api.Frame{{Kind: api.KStream, Stream: id, Size: 5, Fin: true}}}})
	s.Write(0, nil)
	id, _ = c.Open(false)
	c.Write(id, []byte("x"))
	_, l = sends(t, "C5: a piece", c, 50010)
	o, _ = c.end.loss.Ack(50010, 2, ack(l[0].Number, l[0].Number))
	is(t, "C5: no ack in it", []any{o.Acked[0].Told, o.Acked[0].Time, o.Acked[0].Probe}, []any{int64(-1), int64(50010), false})
	c = client(t)
	sends(t, "HELLO", c, 7)
	o, _ = c.end.loss.Ack(7, 0, ack(0, 0))
	is(t, "C5: HELLO", o.Acked, []api.Sent{{Time: 7, Size: 1200, Eliciting: true, Counted: true, Told: -1, Frames: []api.Frame{{Kind: api.KCrypto, Size: 32}}}})
}

// C5: a server that isn't validated sends three times what it was handed at most; Initial is told with 1200 bytes alone.
func TestThreeTimes(t *testing.T) {
	for _, n := range []int{400, 401, 500, 799, 800, 1200, 2000} {
		s := greeted(t, n)
		for i := range 12 {
			for _, _, ok := s.Send(0); ok; _, _, ok = s.Send(0) {
				if v := s.View(); v.Sent > 3*v.Got {
					t.Errorf("C10: %d bytes of %d", v.Sent, v.Got)
				}
			}
			s.end.credit, s.end.in = 2, i%2
		}
		if v := s.View(); v.Sent <= 3*v.Got-1200 {
			t.Errorf("C5: %d bytes alone of %d", v.Sent, v.Got)
		}
	}
	for _, x := range []struct {
		may    int64
		spaces []int
		first  []int
		bytes  int
	}{
		{1201, []int{0, 1}, []int{api.KAck, api.KCrypto}, 1200},
		{1200, []int{0, 1}, []int{api.KAck, api.KCrypto}, 1200},
		{1199, []int{0, 1}, []int{api.KAck}, 21 + 52},
		{661, []int{0, 1}, []int{api.KAck}, 21 + 52},
		{660, []int{0}, []int{api.KAck}, 21},
		{640, []int{0}, []int{api.KAck}, 21},
	} {
		s := greeted(t, 1200)
		may(s, x.may)
		sent := s.View().Sent
		b, l := sends(t, "C5: what may be sent", s, 0)
		is(t, "C5: what may be sent", []any{spaces(l), kinds(l[0]), len(b)}, []any{x.spaces, x.first, x.bytes})
		is(t, "C9: Sent", s.View().Sent, sent+int64(x.bytes))
	}
	for _, n := range []int64{639, 638, 21, 1, 0} {
		s := greeted(t, 1200)
		may(s, n)
		silent(t, "C5: LEFT is below 640", s, 0)
		// More comes: more may go.
		s.Receive(0, make([]byte, 400), api.Unmarked)
		sends(t, "C5: more came", s, 0)
	}
	// Probe credit changes nothing of that.
	s := greeted(t, 1200)
	s.end.credit = 2
	may(s, 1199)
	_, l := sends(t, "C5: what may be sent", s, 0)
	is(t, "C5: Initial isn't counted", kinds(l[0]), []int{api.KAck})
	is(t, "C5: the credit", s.View().Credit, 1)
	// Once it is validated it may send as it likes.
	s = greeted(t, 1200)
	s.Receive(0, datagram(t, long(1, "\x09", 0, payload(t, ping()))), api.Unmarked)
	may(s, 0)
	sends(t, "C5: validated", s, 0)
}

// C5: a datagram has no more bytes than a whole one, nor than a server may send; of a validated one, and of a client, that bounds nothing.
func TestAllowance(t *testing.T) {
	for _, mtu := range []int{1200, 1500, 9000} {
		set := func(c *api.Config) { c.MTU, c.Burst = mtu, 20000 }
		s := made(t, changed(1, set), 1)
		for _, x := range []struct{ got, sent int64 }{{0, 0}, {1, 0}, {1, 3}, {399, 0}, {400, 0}, {1200, 0}, {1200, 1201}, {5000, 1}, {5000, 14000}} {
			s.end.got, s.end.sent = x.got, x.sent
			is(t, "C5: LEAST", s.end.allowance(), min(int64(mtu), 3*x.got-x.sent))
		}
		s.end.validated = true
		is(t, "C5: validated", s.end.allowance(), int64(mtu))
		is(t, "C5: a client", made(t, changed(0, set), 0).end.allowance(), int64(mtu))
	}
}

// C5: at least 640 bytes are left for each packet.
func TestLeft(t *testing.T) {
	// An Initial packet of 21 bytes, then one of Handshake.
	for _, x := range []struct {
		may int64
		n   int
	}{{639, 0}, {640, 1}, {641, 1}, {660, 1}, {661, 2}, {662, 2}, {1199, 2}} {
		s := greeted(t, 1200)
		may(s, x.may)
		n := 0
		if b, _, ok := s.Send(0); ok {
			n = len(sees(t, b, 1))
		}
		is(t, "C5: packets", n, x.n)
	}
	// The greatest ack that may be fits.
	c := made(t, changed(0, func(c *api.Config) { c.ID, c.To = repeat(1, 20), repeat(2, 20) }), 0)
	exchange(t, c, made(t, changed(1, func(c *api.Config) { c.ID = repeat(3, 20) }), 1), 0)
	for i := range int64(40) {
		at := next(c, 2)
		if i > 0 {
			at += 1 << 30
		}
		p := short(at, payload(t, ping()))
		p.Dst = repeat(1, 20)
		c.Receive(1<<49, datagram(t, p), api.Marked)
	}
	b, _, ok := c.Send(api.MaxTime)
	l := sees(t, b, 20)
	if !ok || len(l[0].frames[0].Runs) != 32 || l[0].frames[0].Kind != api.KAck {
		t.Errorf("C5: the greatest ack: %+v", l)
	}
}

// C5: acks go in every packet that is made, as long as something wasn't told; Delay by 3 in the handshake, by the end's own AckExp in App.
func TestAckFrames(t *testing.T) {
	for _, exp := range []int{0, 3, 5, 20} {
		set := func(c *api.Config) { c.AckExp = exp }
		c, s := met(t, set)
		hears(t, c, 50000, ping())
		_, l := sends(t, "C5: the ack", c, 75000)
		is(t, "C5: its delay in App", l[0].frames[0].Delay, 25000>>exp)
		hears(t, s, 50000, ping())
		hears(t, s, 50100, ping())
		_, l = sends(t, "C5: the ack", s, 52000)
		is(t, "C5: its delay in App", l[0].frames[0].Delay, 1900>>exp)
		g := made(t, changed(1, set), 1)
		g.Receive(0, hello(t, 1200), api.Unmarked)
		_, l = sends(t, "C5: the acks", g, 1600)
		is(t, "C5: its delay in Initial", []any{l[0].frames[0].Kind, l[0].frames[0].Delay}, []any{api.KAck, int64(200)})
		g.Receive(2000, datagram(t, long(1, "\x09", 0, payload(t, ping()))), api.Unmarked)
		_, l = sends(t, "C5: the ack", g, 2080)
		is(t, "C5: its delay in Handshake", []any{l[0].Space, l[0].frames[0].Kind, l[0].frames[0].Delay}, []any{1, api.KAck, int64(10)})
	}
	// What doesn't elicit is told with something else; what was told isn't told again.
	c, _ := met(t, nil)
	hears(t, c, 50000, padding(1))
	silent(t, "C5: no ack is due", c, 50000)
	id, _ := c.Open(true)
	c.Write(id, []byte("a"))
	_, l := sends(t, "C5: a piece", c, 50000)
	is(t, "C5: with an ack", kinds(l[0]), []int{api.KAck, api.KStream})
	c.Write(id, []byte("a"))
	_, l = sends(t, "C5: a piece", c, 50000)
	is(t, "C5: without one", kinds(l[0]), []int{api.KStream})
	// An ack that is due goes though the window is full, alone.
	c = filled(t)
	hears(t, c, 50000, ping(), padding(3))
	hears(t, c, 50000, ping())
	_, l = sends(t, "C5: the ack", c, 50000)
	is(t, "C5: the ack alone", kinds(l[0]), []int{api.KAck})
	silent(t, "C5: once", c, 50000)
}

// C5: the frames' order in App: ack, DONE, response, streams.
func TestOrder(t *testing.T) {
	s := greeted(t, 1200)
	sends(t, "ANSWER", s, 0)
	s.Receive(0, datagram(t, long(1, "\x09", 0, payload(t, ack(0, 0), crypto(0, doneBytes))),
		short(0, payload(t, api.Frame{Kind: api.KChallenge, Data: []byte("12345678")}))), api.Unmarked)
	id, _ := s.Open(true)
	s.Write(id, make([]byte, 2000))
	b, l := sends(t, "C5: all", s, 0)
	is(t, "C5: the order", []any{kinds(l[0]), len(b)}, []any{[]int{api.KAck, api.KDone, api.KResponse, api.KStream}, 1200})
	b, l = sends(t, "C5: the rest", s, 0)
	is(t, "C5: the rest", kinds(l[0]), []int{api.KStream})
	// Several frames of streams, as long as there is one.
	c, _ := met(t, nil)
	for range 4 {
		id, _ := c.Open(false)
		c.Write(id, []byte("abc"))
	}
	c.Open(false)
	_, l = sends(t, "C5: all streams", c, 50000)
	is(t, "C5: all streams", kinds(l[0])[len(kinds(l[0]))-5:], []int{api.KStreamsBlocked, api.KStream, api.KStream, api.KStream, api.KStream})
}

// C5: all that is told of the handshake goes, in pieces where it was lost so.
func TestPieces(t *testing.T) {
	c := client(t)
	sends(t, "HELLO", c, 0)
	c.end.hand.Lost(0, api.Frame{Kind: api.KCrypto, Offset: 3, Size: 2})
	c.end.hand.Lost(0, api.Frame{Kind: api.KCrypto, Offset: 9, Size: 4})
	_, l := sends(t, "C5: both pieces", c, 0)
	is(t, "C5: both pieces", kinds(l[0]), []int{api.KCrypto, api.KCrypto})
	is(t, "C5: both pieces", []int64{l[0].frames[0].Offset, l[0].frames[1].Offset}, []int64{3, 9})
}

// C5: a client drops Initial as it has sent a Handshake packet, be it an ack alone; a server doesn't.
func TestClientDropsInitial(t *testing.T) {
	c := agreed(t)
	is(t, "C5: not yet", c.View().Open[0], true)
	_, l := sends(t, "DONE", c, 0)
	is(t, "C5: both", spaces(l), []int{0, 1})
	is(t, "C5: dropped", []any{c.View().Open, c.View().Recovery.Spaces[0].Open, c.end.seen[0] == nil}, []any{[3]bool{false, true, true}, false, true})
	c = answered(t)
	c.Receive(0, datagram(t, long(1, "\x09", 0, payload(t, ping()))), api.Unmarked)
	_, l = sends(t, "C5: an ack alone", c, 0)
	is(t, "C5: an ack alone", []any{spaces(l), kinds(l[0]), kinds(l[1])}, []any{[]int{0, 1}, []int{api.KAck}, []int{api.KAck}})
	is(t, "C5: dropped", c.View().Open[0], false)
	s := greeted(t, 1200)
	_, l = sends(t, "ANSWER", s, 0)
	is(t, "C5: a server", []any{spaces(l), s.View().Open[0]}, []any{[]int{0, 1}, true})
}

// C5: a space in which no number is left: the end is over at once, and nothing is sent.
func TestNoNumber(t *testing.T) {
	for space := range 3 {
		c := agreed(t)
		is(t, "C2: Close", c.View().State, api.StateLive)
		id, _ := c.Open(true)
		c.Write(id, []byte("abc"))
		first := api.Config{MTU: 1200, InitialRTT: 100000, Granularity: 1000, MaxPTO: 1000000}
		first.First[space] = api.MaxNumber
		fresh, err := loss.New(first, api.Client)
		is(t, "P14", err, api.OK)
		c.end.loss = fresh
		sent := c.View().Sent
		// The last number goes.
		_, l := sends(t, "C5: the last number", c, 0)
		is(t, "C5: the last number", spaces(l), []int{0, 1, 2})
		_, err = c.end.loss.Next(space)
		if space == api.Initial {
			continue // It was dropped behind that.
		}
		is(t, "P14.1: none is left", err, api.ErrLedgerLast)
		sent = c.View().Sent
		if space == api.Handshake {
			// What goes in App goes, as long as no packet of Handshake is to be made.
			c.Write(id, []byte("abc"))
			_, l = sends(t, "C5: another space", c, 0)
			is(t, "C5: another space", spaces(l), []int{2})
			sent = c.View().Sent
			c.Receive(0, datagram(t, long(1, "\x09", 5, payload(t, ping()))), api.Unmarked)
		}
		c.Write(id, []byte("def"))
		silent(t, "C5: none is left", c, 0)
		v := c.View()
		is(t, "C5: over", []any{v.State, v.IdleAt, v.EndAt, v.Sent, c.Deadline()}, []any{api.StateOver, int64(api.Never), int64(api.Never), sent, int64(api.Never)})
		is(t, "C5: without a word", []any{v.Code, v.Own, v.Told}, []any{int64(0), false, false})
	}
	// In the first space: nothing of the others goes either.
	c := agreed(t)
	first := api.Config{MTU: 1200, InitialRTT: 100000, Granularity: 1000, MaxPTO: 1000000, First: [3]int64{api.MaxNumber}}
	c.end.loss, _ = loss.New(first, api.Client)
	c.end.loss.Sent(0, api.Initial, api.Sent{Told: -1})
	silent(t, "C5: none is left", c, 0)
	is(t, "C5: over", c.View().State, api.StateOver)
}

// C5: numbers stand in four bytes always, and rise by one a packet.
func TestWidth(t *testing.T) {
	c, s := met(t, nil)
	for _, e := range []*Conn{c, s} {
		id, _ := e.Open(true)
		at := e.View().Recovery.Spaces[2].Next
		for i := range int64(5) {
			e.Write(id, []byte("a"))
			_, l := sends(t, "C5: a piece", e, 50000)
			is(t, "C5: number and width", []any{l[0].Number, l[0].Width}, []any{at + i, 4})
		}
	}
}

// C5: what is forgotten as there is no room is told again.
func TestForgotten(t *testing.T) {
	c, _ := met(t, func(c *api.Config) { c.StreamUni = 1 << 20 })
	id, _ := c.Open(true)
	for c.end.loss.May(2, 1200) {
		c.Write(id, []byte("a"))
		sends(t, "C5: a piece", c, 50000)
	}
	is(t, "P14.3: kept", c.View().Recovery.Spaces[2].Kept, 252)
	c.Write(id, []byte("b"))
	silent(t, "C5: no room", c, 50000)
	// Four packets more, of two expiries; then the oldest ones go.
	for i, want := range []int{254, 256, 256, 256} {
		c.Timeout(c.Deadline())
		c.Events()
		var n []int64
		for b, _, ok := c.Send(0); ok; b, _, ok = c.Send(0) {
			for _, e := range c.Events() {
				if e.Kind == api.EvForgotten {
					n = append(n, e.Number)
				}
			}
			is(t, "C5: a probe", sees(t, b, 1)[0].Space, 2)
		}
		is(t, "P13.3: kept", c.View().Recovery.Spaces[2].Kept, want)
		is(t, "C5: forgotten", len(n), []int{0, 0, 2, 2}[i])
		if i >= 2 {
			v, _ := c.Stream(id)
			if len(v.Send.Lost) == 0 {
				t.Error("C5: what was forgotten isn't told again")
			}
		}
	}
}

// C5: a close in each open space; in the handshake's nothing of the application's is told.
func TestSendClose(t *testing.T) {
	own := []api.Frame{{Kind: api.KClose, Own: true, Code: 7, Data: []byte("bye")}}
	hidden := []api.Frame{{Kind: api.KClose, Code: int64(api.CodeApp)}}
	c := agreed(t)
	is(t, "C2: Close", c.Close(0, 7, []byte("bye")), api.OK)
	ahead := c.View().Recovery
	b, l := sends(t, "C5: the close", c, 0)
	is(t, "C5: in each open space", spaces(l), []int{0, 1, 2})
	is(t, "C5: the frames", [][]api.Frame{l[0].frames, l[1].frames, l[2].frames}, [][]api.Frame{hidden, hidden, own})
	is(t, "C5: number, width", []any{l[0].Number, l[1].Number, l[2].Number, l[0].Width, l[2].Width}, []any{int64(1), int64(0), int64(0), 4, 4})
	v := c.View()
	for space := range 3 {
		ahead.Spaces[space].Next++
	}
	is(t, "C5: neither eliciting nor counted", v.Recovery, ahead)
	is(t, "C9: Sent", v.Sent, int64(1200+len(b)))
	is(t, "C9: what is open stays", v.Open, [3]bool{true, true, true})
	// With a code of its own all of it is told everywhere.
	c = agreed(t)
	c.Receive(0, datagram(t, short(0, payload(t, api.Frame{Kind: api.KStream, Stream: 0}))), api.Unmarked)
	_, l = sends(t, "C5: the close", c, 0)
	told := []api.Frame{{Kind: api.KClose, Code: int64(api.CodeState), Size: api.KStream}}
	is(t, "C5: the frames", [][]api.Frame{l[0].frames, l[1].frames, l[2].frames}, [][]api.Frame{told, told, told})
	// One space alone.
	c = client(t)
	c.Close(0, 7, []byte("bye"))
	_, l = sends(t, "C5: the close", c, 0)
	is(t, "C5: Initial alone", []any{spaces(l), l[0].frames, string(l[0].Dst), string(l[0].Src)}, []any{[]int{0}, hidden, "\x05", "\x09"})
	silent(t, "C5: once", c, 0)
}

// C5: a space without a number has no close; if there is none at all, it is due still.
func TestSendCloseNumbers(t *testing.T) {
	for bits := range 8 {
		c := agreed(t)
		first := api.Config{MTU: 1200, InitialRTT: 100000, Granularity: 1000, MaxPTO: 1000000}
		var want []int
		for space := range 3 {
			if bits>>space&1 == 1 {
				first.First[space] = api.MaxNumber
			} else {
				want = append(want, space)
			}
		}
		c.end.loss, _ = loss.New(first, api.Client)
		for space := range 3 {
			if first.First[space] > 0 {
				c.end.loss.Sent(0, space, api.Sent{Told: -1})
			}
		}
		c.Close(0, 7, nil)
		if want == nil {
			silent(t, "C5: no number is left", c, 0)
			is(t, "C5: it is due still", []any{c.end.closeDue, c.View().State}, []any{true, api.StateClosing})
			continue
		}
		_, l := sends(t, "C5: the close", c, 0)
		is(t, "C5: where a number is left", spaces(l), want)
	}
}

// C5: a server closes where it may: it must know the other end's id, and may send so many bytes.
func TestSendCloseOfServer(t *testing.T) {
	s := server(t)
	s.Close(0, 7, nil)
	silent(t, "C5: nobody called", s, 0)
	s.Receive(0, hello(t, 1200), api.Unmarked)
	silent(t, "C5: closing, it learns nobody's id", s, 0)
	is(t, "C5: it is due still", []any{s.end.closeDue, len(s.View().There)}, []any{true, 0})
	// The packets have 20 and 19 bytes.
	for _, n := range []int64{0, 1, 38} {
		s = greeted(t, 1200)
		s.Close(0, 7, nil)
		may(s, n)
		silent(t, "C5: it may not", s, 0)
		is(t, "C5: it is due still", s.end.closeDue, true)
		is(t, "C5: no number is used", s.View().Recovery.Spaces[0].Next, 0)
		// It needn't be due once more, as it is still: the third one doesn't make it so.
		s.Receive(0, make([]byte, 30), api.Unmarked)
		b, l := sends(t, "C5: it may", s, 0)
		is(t, "C5: the close", []any{len(b), spaces(l)}, []any{39, []int{0, 1}})
	}
	s = greeted(t, 1200)
	s.Close(0, 7, nil)
	may(s, 39)
	b, _ := sends(t, "C5: it may", s, 0)
	is(t, "C5: not padded", len(b), 39)
	// A validated one isn't bound by that.
	s = greeted(t, 1200)
	s.Receive(0, datagram(t, long(1, "\x09", 0, payload(t, ping()))), api.Unmarked)
	s.Close(0, 7, nil)
	may(s, 0)
	_, l := sends(t, "C5: validated", s, 0)
	is(t, "C5: validated", spaces(l), []int{1})
}

// C5: loss is told whether more waited: what is acknowledged then raises the window, or not.
func TestLimited(t *testing.T) {
	grows := func(say string, do func(c *Conn, id int64), want bool) {
		t.Helper()
		c, _ := met(t, nil)
		id, _ := c.Open(false)
		c.Write(id, []byte("a"))
		_, l := sends(t, "C5: a piece", c, 60000)
		do(c, id)
		size := c.View().Recovery.Window.Size
		hears(t, c, 60100, ack(l[0].Number, l[0].Number))
		is(t, "C5: the window grows, "+say, c.View().Recovery.Window.Size > size, want)
	}
	grows("as a counted packet went last", func(c *Conn, id int64) {}, true)
	grows("as Send was asked, and nothing waited", func(c *Conn, id int64) { c.Send(60000) }, false)
	grows("as more went", func(c *Conn, id int64) { c.Send(60000); c.Write(id, []byte("a")); c.Send(60000) }, true)
	grows("as an ack alone went", func(c *Conn, id int64) {
		hears(t, c, 60000, ping())
		hears(t, c, 60000, ping())
		c.Send(60000)
	}, false)
	grows("as Send wasn't asked", func(c *Conn, id int64) { c.Write(id, []byte("a")) }, true)
	// The window is full: that nothing goes isn't for want of something to send.
	grows("as the window is full", func(c *Conn, id int64) {
		c.Write(id, make([]byte, 16000))
		for _, _, ok := c.Send(60000); ok; _, _, ok = c.Send(60000) {
		}
		hears(t, c, 60000, api.Frame{Kind: api.KStop, Stream: id})
		silentlyFull(t, c)
	}, true)
	// Something waits, but may not go: that isn't told.
	grows("as more waits", func(c *Conn, id int64) {
		c.Write(id, make([]byte, 16000))
		for _, _, ok := c.Send(60000); ok; _, _, ok = c.Send(60000) {
		}
		c.Send(60000)
	}, true)
}

// C5: that is told ahead of the drop of Initial, as whose flight goes.
func TestLimitedAheadOfDrop(t *testing.T) {
	for _, x := range []struct {
		size int64
		want int64 // the window, behind the acknowledgement of 1000 bytes
	}{{9000, 13000}, {8000, 12000}} {
		c := answered(t)
		c.end.loss.Sent(0, api.Initial, api.Sent{Size: x.size, Counted: true, Told: -1})
		c.end.loss.Sent(0, api.Handshake, api.Sent{Size: 1000, Eliciting: true, Counted: true, Told: -1})
		c.Receive(0, datagram(t, long(1, "\x09", 0, payload(t, ping()))), api.Unmarked)
		_, l := sends(t, "C5: acks alone", c, 0)
		is(t, "C5: acks alone", []any{spaces(l), kinds(l[1]), c.View().Open[0]}, []any{[]int{0, 1}, []int{api.KAck}, false})
		c.Receive(0, datagram(t, long(1, "\x09", 1, payload(t, ack(0, 0)))), api.Unmarked)
		is(t, "C5: the window", c.View().Recovery.Window.Size, x.want)
	}
}

// C5: what doesn't fit in what is left isn't put in.
func TestDraft(t *testing.T) {
	f := api.Frame{Kind: api.KResponse, Data: []byte("12345678")}
	for left, want := range map[int]bool{6: false, 14: false, 15: true, 16: true, 1200: true} {
		d := newDraft(short(0, nil), left)
		is(t, "C5: the room", []int{d.room, d.size()}, []int{left - 6, 6})
		is(t, "C5: it fits", d.addIf(f), want)
		if want {
			is(t, "C5: put in", []any{d.room, d.size(), d.frames, d.eliciting}, []any{left - 15, 15, []api.Frame{f}, true})
		} else {
			is(t, "C5: not put in", []any{d.room, d.size(), len(d.frames), d.eliciting}, []any{left - 6, 6, 0, false})
		}
	}
	d := newDraft(short(0, nil), 100)
	d.add(ack(0, 7))
	is(t, "C5: an ack doesn't elicit", []any{d.eliciting, d.sent(d.size()).Told, d.sent(d.size()).Counted, d.sent(d.size() + 1).Counted}, []any{false, int64(7), false, true})
}

// silentlyFull has a client whose window is full and whose stream was stopped send the reset, as a probe.
func silentlyFull(t *testing.T, c *Conn) {
	t.Helper()
	c.end.credit, c.end.in = 1, api.App
	_, l := sends(t, "C5: the reset", c, 60000)
	is(t, "C5: the reset", l[0].frames[len(l[0].frames)-1].Kind, api.KReset)
	is(t, "C5: nothing waits, and the window is full", []any{c.end.streams.Waits(), c.end.loss.May(2, 1200)}, []any{false, false})
	silent(t, "C5: the window is full", c, 60000)
}

// C5: blocked is told as it turns, once, at the end of each Receive and of each Send that gave a datagram.
func TestBlocked(t *testing.T) {
	timer := func(s *Conn) int { return s.View().Recovery.Kind }
	s := greeted(t, 1200)
	is(t, "C5: it may send 3600", s.end.blocked, false)
	sends(t, "ANSWER", s, 0)
	is(t, "C5: not blocked", []any{s.end.blocked, timer(s)}, []any{false, api.ExpiryProbe})
	// Each expiry two datagrams, of 1200 bytes each: then none may go any more.
	s.Timeout(s.Deadline())
	for range 2 {
		is(t, "C5: not blocked", []any{s.end.blocked, timer(s)}, []any{false, api.ExpiryProbe})
		sends(t, "C5: a probe", s, 0)
	}
	is(t, "C5: blocked", []any{s.end.blocked, timer(s), s.Deadline()}, []any{true, api.ExpiryNone, int64(api.Never)})
	silent(t, "C5: blocked", s, 0)
	s.Events()
	s.Receive(700000, []byte("anything, 399 bytes of it" + string(make([]byte, 374)))[:399], api.Unmarked)
	is(t, "C5: 1197 bytes", []any{s.end.blocked, timer(s), len(s.Events())}, []any{true, api.ExpiryNone, 0})
	s.Receive(700001, []byte("x"), api.Unmarked)
	is(t, "C5: 1200 bytes", []any{s.end.blocked, timer(s)}, []any{false, api.ExpiryProbe})
	l := s.Events()
	is(t, "C5: told once", len(l), 1)
	is(t, "C5: told at that time", []any{l[0].Kind, l[0].Time}, []any{api.EvTimer, int64(700001)})
	// A server that was handed less than 400 bytes, and one that nobody called.
	s = greeted(t, 399)
	is(t, "C5: 1197 bytes", s.end.blocked, true)
	is(t, "C5: 1200 bytes", greeted(t, 400).end.blocked, false)
	is(t, "C5: at first it isn't told", server(t).end.blocked, false)
	s = server(t)
	s.Receive(0, nil, api.Unmarked)
	is(t, "C5: told by the first Receive", s.end.blocked, true)
	// Validated it isn't any more.
	s = greeted(t, 399)
	sends(t, "TERMS", s, 0)
	is(t, "C5: blocked", []any{s.end.blocked, timer(s)}, []any{true, api.ExpiryNone})
	may(s, 0)
	s.Receive(5, datagram(t, long(1, "\x09", 0, payload(t, padding(1)))), api.Unmarked)
	is(t, "C5: validated", []any{s.end.blocked, timer(s)}, []any{false, api.ExpiryProbe})
	// A client never is; nor is one told that isn't live.
	is(t, "C5: a client", agreed(t).end.blocked, false)
	s = greeted(t, 400)
	s.Receive(0, datagram(t, long(0, "\x09", 1, []byte{7})), api.Unmarked)
	sends(t, "C5: the close", s, 0)
	may(s, 0)
	s.Receive(0, nil, api.Unmarked)
	is(t, "C5: closing, nothing is told", s.end.blocked, false)
}

// C5: a Send that gives no datagram doesn't tell.
func TestBlockedNoDatagram(t *testing.T) {
	s := greeted(t, 1200)
	sends(t, "ANSWER", s, 0)
	may(s, 1000)
	silent(t, "C5: nothing waits", s, 0)
	is(t, "C5: it isn't told", s.end.blocked, false)
	s.Receive(0, nil, api.Unmarked)
	is(t, "C5: it is told", s.end.blocked, true)
}
