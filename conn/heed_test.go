package conn

import (
	"slices"
	"testing"

	"portage/api"
)

// each is a frame of each kind, as one that may stand in App for a client that has sent a packet there.
func each() []api.Frame {
	return []api.Frame{
		padding(1), ping(), ack(0, 0), {Kind: api.KReset, Stream: 1}, {Kind: api.KStop, Stream: 1}, crypto(0, ""),
		{Kind: api.KStream, Stream: 1, Data: []byte("a")}, {Kind: api.KMaxData, Limit: 7}, {Kind: api.KMaxStreamData, Stream: 1, Limit: 7},
		{Kind: api.KMaxStreams, Limit: 7}, {Kind: api.KMaxStreams, Limit: 7, Uni: true}, {Kind: api.KDataBlocked, Limit: 7},
		{Kind: api.KStreamDataBlocked, Stream: 1, Limit: 7}, {Kind: api.KStreamsBlocked, Limit: 7}, {Kind: api.KStreamsBlocked, Limit: 7, Uni: true},
		{Kind: api.KChallenge, Data: []byte("12345678")}, {Kind: api.KResponse, Data: []byte("12345678")},
		{Kind: api.KClose, Code: 5, Size: 6, Data: []byte("why")}, {Kind: api.KClose, Own: true, Code: 5, Data: []byte("why")}, {Kind: api.KDone},
	}
}

// C4: what its space doesn't allow closes with CodeProtocol, of that frame's kind; what it allows doesn't.
func TestAllowed(t *testing.T) {
	for _, space := range []int{api.Initial, api.Handshake} {
		for _, f := range each() {
			c := agreed(t)
			if space == api.Handshake {
				// So that an ack of number 0 acknowledges something.
				c.end.loss.Sent(0, space, api.Sent{Size: 50, Eliciting: true, Counted: true, Told: -1})
			}
			c.Receive(0, datagram(t, long(space, "\x09", 7, payload(t, f))), api.Unmarked)
			switch {
			case f.Kind == api.KClose && !f.Own:
				is(t, "C4: a close", c.View().State, api.StateDraining)
			case slices.Contains([]int{api.KPadding, api.KPing, api.KAck, api.KCrypto}, f.Kind):
				lives(t, "C4: it may stand there", c)
				is(t, "C3: it has come", c.end.seen[space].Fresh(7), false)
			default:
				closes(t, "C4: it may not stand there", c, api.CodeProtocol, int64(f.Kind))
				is(t, "C3: it hasn't come", c.end.seen[space].Fresh(7), true)
			}
		}
	}
	for _, f := range each() {
		c, _ := met(t, nil)
		hears(t, c, 50000, f)
		switch f.Kind {
		case api.KClose:
			is(t, "C4: a close", c.View().State, api.StateDraining)
		case api.KCrypto:
			closes(t, "C4: crypto in App", c, api.CodeProtocol, api.KCrypto)
		default:
			lives(t, "C4: it may stand there", c)
		}
	}
}

// C4: padding, ping and response do nothing.
func TestNothing(t *testing.T) {
	for _, f := range []api.Frame{padding(9), ping(), {Kind: api.KResponse, Data: []byte("12345678")}} {
		c, _ := met(t, nil)
		unchanged(t, "C4: nothing", c, func() {
			for range 3 {
				c.end.heed(api.App, f)
			}
		})
	}
}

// C4: of a challenge a response is due, the newest one alone, once; it isn't told again.
func TestChallenge(t *testing.T) {
	challenge := func(text string) api.Frame { return api.Frame{Kind: api.KChallenge, Data: []byte(text)} }
	for role := range 2 {
		both := [2]*Conn{}
		both[0], both[1] = met(t, nil)
		e := both[role]
		hears(t, e, 50000, challenge("12345678"))
		_, l := sends(t, "C4: a response", e, 50000)
		is(t, "C4: the response", l[0].frames[1:], []api.Frame{{Kind: api.KResponse, Data: []byte("12345678")}})
		silent(t, "C4: once", e, 50000)
		// Several ahead of the response, in one packet and in two.
		hears(t, e, 50000, challenge("abcdefgh"), challenge("ijklmnop"))
		hears(t, e, 50000, challenge("qrstuvwx"), ping())
		_, l = sends(t, "C4: a response", e, 50000)
		is(t, "C4: the newest one alone", l[0].frames[1:], []api.Frame{{Kind: api.KResponse, Data: []byte("qrstuvwx")}})
		silent(t, "C4: once", e, 50000)
		// It is lost: the probe is a ping.
		e.Timeout(e.Deadline())
		_, l = sends(t, "C5: a probe", e, 0)
		is(t, "C5: not told again", kinds(l[0]), []int{api.KPing})
	}
}

// C4: an ack of what was never sent closes with CodeProtocol.
func TestAckOfNothing(t *testing.T) {
	for _, r := range []api.Frame{ack(1, 1), ack(0, 1), ack(api.MaxNumber, api.MaxNumber), {Kind: api.KAck, Runs: []api.Run{{Lo: 3, Hi: 3}, {Lo: 0, Hi: 0}}}} {
		c := client(t)
		sends(t, "HELLO", c, 0)
		c.Receive(0, datagram(t, long(api.Initial, "\x09", 0, payload(t, r))), api.Unmarked)
		closes(t, "C4: an ack of what was never sent", c, api.CodeProtocol, api.KAck)
		is(t, "C4: nothing was acknowledged", c.View().Recovery.Spaces[0].Largest, -1)
	}
	c := client(t)
	c.Receive(0, datagram(t, long(api.Initial, "\x09", 0, payload(t, ack(0, 0)))), api.Unmarked)
	closes(t, "C4: nothing was sent", c, api.CodeProtocol, api.KAck)
	// A space whose numbers begin higher.
	c = made(t, changed(api.Client, func(c *api.Config) { c.First[0] = 5 }), api.Client)
	sends(t, "HELLO", c, 0)
	c.Receive(0, datagram(t, long(api.Initial, "\x09", 0, payload(t, ack(5, 5)))), api.Unmarked)
	lives(t, "C4: what was sent", c)
	c.Receive(0, datagram(t, long(api.Initial, "\x09", 1, payload(t, ack(4, 5)))), api.Unmarked)
	closes(t, "C4: what wasn't", c, api.CodeProtocol, api.KAck)
	// Of a space that was dropped ahead of it in the same packet there is nothing any more.
	s := greeted(t, 1200)
	sends(t, "TERMS", s, 0)
	s.Receive(0, datagram(t, long(api.Handshake, "\x09", 0, payload(t, crypto(0, doneBytes), ack(0, 0)))), api.Unmarked)
	closes(t, "C4: an ack in a space that was dropped", s, api.CodeProtocol, api.KAck)
}

// C4: by an ack the frames of what it acknowledges are acknowledged, and what was told there is forgotten.
func TestAcked(t *testing.T) {
	c, s := met(t, nil)
	id, _ := c.Open(false)
	c.Write(id, []byte("hello"))
	b, _ := sends(t, "C5: a piece", c, 50000)
	s.Receive(50000, b, api.Unmarked)
	// A server's stream, too: both tell an ack with their pieces.
	s.Write(id, []byte("world"))
	b, l := sends(t, "C5: ack and piece", s, 50000)
	is(t, "C5: ack and piece", kinds(l[0]), []int{api.KAck, api.KStream})
	told := l[0].frames[0].Runs[0].Hi
	floor := s.end.seen[2].Floor()
	c.Receive(50010, b, api.Unmarked)
	v, _ := c.Stream(id)
	is(t, "C4: the piece is acknowledged", v.Send.Base, 5)
	is(t, "C9: nothing is in flight", c.View().Recovery.Window.Flight, 0)
	is(t, "C4: nothing is forgotten by what is told", s.end.seen[2].Floor(), floor)
	c.Timeout(75010)
	b, l = sends(t, "C5: the ack", c, 75010)
	is(t, "C5: the ack", kinds(l[0]), []int{api.KAck})
	s.Receive(75020, b, api.Unmarked)
	is(t, "C4: what was told is forgotten", s.end.seen[2].Floor(), told)
	v, _ = s.Stream(id)
	is(t, "C4: the server's piece is acknowledged", v.Send.Base, 5)
	// In the handshake's spaces likewise.
	s = greeted(t, 1200)
	sends(t, "ANSWER, TERMS, DONE", s, 0)
	is(t, "H7: what is held", s.end.hand.Held(), 2+34)
	s.Receive(0, datagram(t, long(api.Initial, "\x09", 4, payload(t, ack(0, 0)))), api.Unmarked)
	is(t, "C4: ANSWER is acknowledged", s.end.hand.Held(), 34)
	is(t, "C4: HELLO's number is forgotten", s.end.seen[0].Floor(), 0)
	s.Receive(0, datagram(t, long(api.Handshake, "\x09", 4, payload(t, ack(0, 0)))), api.Unmarked)
	is(t, "C4: TERMS and DONE are acknowledged", s.end.hand.Held(), 0)
	is(t, "C4: no ack was told there", s.end.seen[1].Floor(), -1)
}

// C4: what an ack shows as lost is told again.
func TestLostByAck(t *testing.T) {
	c, s := met(t, nil)
	id, _ := c.Open(true)
	var last []byte
	for i := range 4 {
		c.Write(id, []byte{'a' + byte(i)})
		last, _ = sends(t, "C5: a piece", c, 50000)
	}
	s.Receive(50000, last, api.Unmarked)
	b, l := sends(t, "C5: the ack, of a hole", s, 50000)
	is(t, "C5: the ack", kinds(l[0]), []int{api.KAck})
	c.Receive(50010, b, api.Unmarked)
	is(t, "P14.5: two in flight", c.View().Recovery.Window.Flight, 2*int64(len(last)))
	_, l = sends(t, "C4: the first one again", c, 50010)
	is(t, "C4: the first one again", l[0].frames[1:], []api.Frame{{Kind: api.KStream, Stream: id, Data: []byte("a")}})
	silent(t, "C4: once", c, 50010)
}

// C4: crypto frames: Take's codes close, with the frame's kind.
func TestCryptoCodes(t *testing.T) {
	for _, x := range []struct {
		role, space int
		f           api.Frame
		code        api.Code
	}{
		{api.Client, 0, crypto(0, "\x03"), api.CodeHand}, {api.Client, 0, crypto(0, "\x02\x01"), api.CodeHand},
		{api.Client, 0, crypto(4090, "1234567"), api.CodeCrypto}, {api.Client, 0, crypto(4090, "123456"), api.CodeNone},
		{api.Client, 1, crypto(0, "\x03\x02\x04\x05"), api.CodeParams}, {api.Client, 1, crypto(0, "\x04"), api.CodeHand},
		{api.Server, 0, crypto(0, "\x01\x02\x04\x05"), api.CodeParams}, {api.Server, 0, crypto(0, "\x02"), api.CodeHand},
		{api.Server, 1, crypto(0, "\x03"), api.CodeHand}, {api.Server, 1, crypto(0, "\x04"), api.CodeNone},
		{api.Client, 2, crypto(0, "\x04"), api.CodeProtocol}, {api.Client, 2, crypto(0, ""), api.CodeProtocol},
	} {
		e := answered(t)
		if x.role == api.Server {
			e = greeted(t, 1200)
			if x.space == api.Initial {
				e = server(t)
			}
		} else if x.space == api.Initial {
			e = client(t)
		}
		if x.space == api.App {
			e, _ = met(t, nil)
			hears(t, e, 50000, x.f)
		} else {
			e.Receive(0, datagram(t, long(x.space, "\x09", 5, payload(t, x.f))), api.Unmarked)
		}
		if x.code == api.CodeNone {
			lives(t, "C4: crypto", e)
			continue
		}
		closes(t, "C4: crypto", e, x.code, api.KCrypto)
	}
}

// C4: as the other end's terms come to be known, streams and loss are told; as Handshake comes to be open, loss is told.
func TestTerms(t *testing.T) {
	c, s := client(t), server(t)
	for i, e := range []*Conn{c, s} {
		out, _ := e.end.streams.Credit()
		is(t, "C4: not known yet", []int64{out.Limit, e.end.loss.Period()}, []int64{0, 300000})
		_, err := e.Open(i == 0)
		is(t, "C2: Open", err, api.ErrStreamsLimit)
	}
	b, _ := sends(t, "HELLO", c, 0)
	s.Receive(0, b, api.Unmarked)
	out, _ := s.end.streams.Credit()
	is(t, "C4: HELLO", []int64{out.Limit, s.end.loss.Period()}, []int64{65536, 325000})
	for range 4 {
		_, err := s.Open(false)
		is(t, "C4: how many there may be", err, api.OK)
	}
	_, err := s.Open(false)
	is(t, "C4: one more", err, api.ErrStreamsLimit)
	// A client whose Initial is acknowledged probes in Handshake, once that is open.
	c.Receive(0, datagram(t, long(api.Initial, "\x09", 0, payload(t, ack(0, 0)))), api.Unmarked)
	is(t, "P14.6: without keys", []int{c.View().Recovery.Kind, c.View().Recovery.In}, []int{api.ExpiryProbe, api.Initial})
	c.Receive(0, datagram(t, long(api.Initial, "\x09", 1, payload(t, crypto(0, answerBytes[:1])))), api.Unmarked)
	is(t, "P14.6: without keys", []int{c.View().Recovery.Kind, c.View().Recovery.In}, []int{api.ExpiryProbe, api.Initial})
	c.Receive(10, datagram(t, long(api.Initial, "\x09", 2, payload(t, crypto(1, answerBytes[1:])))), api.Unmarked)
	is(t, "C4: with keys", []int{c.View().Recovery.Kind, c.View().Recovery.In}, []int{api.ExpiryProbe, api.Handshake})
	is(t, "C4: its time", []int64{c.View().Recovery.Deadline, c.end.loss.Period()}, []int64{10 + c.end.loss.Period(), c.end.loss.Period()})
	// TERMS alone: known, and not complete.
	c.Receive(20, datagram(t, long(api.Handshake, "\x09", 0, payload(t, crypto(0, serverBytes[:32])))), api.Unmarked)
	out, _ = c.end.streams.Credit()
	is(t, "C4: TERMS", []any{out.Limit, c.View().Complete}, []any{int64(65536), false})
	is(t, "C4: for how long an ack may be put off", c.end.loss.Period(), period(c, 25000))
	is(t, "P14.6: as it was, till something sets it", c.View().Recovery.Deadline-10, c.end.loss.Period()-25000)
	c.Receive(30, datagram(t, long(api.Handshake, "\x09", 1, payload(t, crypto(32, serverBytes[32:])))), api.Unmarked)
	is(t, "C4: DONE", []any{c.View().Complete, c.View().Confirmed, c.View().Open}, []any{true, false, [3]bool{true, true, true}})
}

// C4: a server is confirmed as it is complete, and DONE is due; Handshake is dropped.
func TestServerDone(t *testing.T) {
	s := greeted(t, 1200)
	b, _ := sends(t, "ANSWER", s, 0)
	is(t, "not yet", len(b), 1200)
	s.Receive(5, datagram(t, long(api.Handshake, "\x09", 0, payload(t, ack(0, 0), crypto(0, doneBytes)))), api.Unmarked)
	v := s.View()
	is(t, "C4: confirmed", []any{v.Complete, v.Confirmed, v.Validated, v.Open}, []any{true, true, true, [3]bool{false, false, true}})
	is(t, "C7: Handshake is dropped", []any{v.Recovery.Spaces[1].Open, s.end.seen[1] == nil}, []any{false, true})
	_, l := sends(t, "C5: DONE", s, 5)
	is(t, "C5: DONE", l[0].frames, []api.Frame{{Kind: api.KDone}})
	silent(t, "C5: once", s, 5)
	// It is lost, and told again.
	s.Timeout(s.Deadline())
	_, l = sends(t, "C4: DONE again", s, 0)
	is(t, "C4: DONE again", l[0].frames, []api.Frame{{Kind: api.KDone}})
	s.Timeout(s.Deadline())
	is(t, "C6: it is due", s.end.done, true)
	// It is acknowledged: it isn't due any more.
	hears(t, s, 5000000, ack(0, 1))
	is(t, "C4: it isn't due any more", s.end.done, false)
	is(t, "C4: nothing is in flight", s.View().Recovery.Window.Flight, 0)
	// One of two is acknowledged, and the other one lost: then it is due again.
	s = greeted(t, 1200)
	sends(t, "ANSWER", s, 0)
	s.Receive(5, datagram(t, long(api.Handshake, "\x09", 0, payload(t, ack(0, 0), crypto(0, doneBytes)))), api.Unmarked)
	sends(t, "C5: DONE", s, 5)
	s.Timeout(s.Deadline())
	sends(t, "C4: DONE again", s, 0)
	hears(t, s, 5000000, ack(1, 1))
	is(t, "C4: the lost one is told again", s.end.done, true)
}

// C4: DONE at a client: it is confirmed; at a server: CodeProtocol.
func TestDone(t *testing.T) {
	c := agreed(t)
	c.Receive(0, datagram(t, short(0, payload(t, api.Frame{Kind: api.KDone}))), api.Unmarked)
	v := c.View()
	is(t, "C4: confirmed", []any{v.State, v.Confirmed, v.Open}, []any{0, true, [3]bool{true, false, true}})
	// Twice is as once.
	ahead := v.Recovery
	c.Receive(0, datagram(t, short(1, payload(t, api.Frame{Kind: api.KDone}))), api.Unmarked)
	is(t, "C4: twice", c.View().Recovery, ahead)
	for _, e := range []*Conn{stated(t, api.Server)[0]} {
		hears(t, e, 50000, api.Frame{Kind: api.KDone})
		closes(t, "C4: DONE at a server", e, api.CodeProtocol, api.KDone)
	}
	s := greeted(t, 1200)
	s.Receive(0, datagram(t, long(api.Handshake, "\x09", 0, payload(t, crypto(0, doneBytes))), short(0, payload(t, api.Frame{Kind: api.KDone}))), api.Unmarked)
	closes(t, "C4: DONE at a server", s, api.CodeProtocol, api.KDone)
}

// C4: the time of what follows is that of the call.
func TestConfirmedAt(t *testing.T) {
	c := agreed(t)
	sends(t, "DONE", c, 0)
	id, _ := c.Open(true)
	c.Write(id, []byte("abc"))
	sends(t, "C5: a piece", c, 10)
	c.Events()
	c.Receive(5000, datagram(t, short(0, payload(t, api.Frame{Kind: api.KDone}))), api.Unmarked)
	l := c.Events()
	if len(l) == 0 {
		t.Error("C7: no events")
	}
	for _, e := range l {
		is(t, "C7: the event's time", e.Time, 5000)
	}
	// Nothing waits in Handshake any more: that it is confirmed sets a timer by itself.
	c = agreed(t)
	sends(t, "DONE", c, 0)
	c.Receive(100, datagram(t, long(api.Handshake, "\x09", 1, payload(t, ack(0, 0)))), api.Unmarked)
	id, _ = c.Open(true)
	c.Write(id, []byte("abc"))
	sends(t, "C5: a piece", c, 100)
	is(t, "P14.6: no timer yet", c.View().Recovery.Kind, api.ExpiryNone)
	c.Events()
	c.Receive(5000, datagram(t, short(0, payload(t, api.Frame{Kind: api.KDone}))), api.Unmarked)
	l = c.Events()
	is(t, "C7: Confirm's timer, then the drop", []any{l[0].Kind, l[0].Time, l[1].Kind}, []any{api.EvTimer, int64(5000), api.EvDropped})
	// The keys' time.
	c = client(t)
	c.Receive(7000, datagram(t, long(api.Initial, "\x09", 0, payload(t, crypto(0, answerBytes)))), api.Unmarked)
	is(t, "C4: Keys", c.View().Recovery.Deadline, 307000)
}

// C4: frames of streams are taken, or close with their code.
func TestStreamFrames(t *testing.T) {
	for _, x := range []struct {
		f    api.Frame
		code api.Code
	}{
		{api.Frame{Kind: api.KStream, Stream: 0}, api.CodeState}, {api.Frame{Kind: api.KStream, Stream: 2}, api.CodeState},
		{api.Frame{Kind: api.KStream, Stream: 17}, api.CodeStreams}, {api.Frame{Kind: api.KStream, Stream: 1, Offset: 16384, Data: []byte("a")}, api.CodeFlow},
		{api.Frame{Kind: api.KReset, Stream: 1, Size: 16385}, api.CodeFlow}, {api.Frame{Kind: api.KReset, Stream: 2}, api.CodeState},
		{api.Frame{Kind: api.KStop, Stream: 3}, api.CodeState}, {api.Frame{Kind: api.KMaxStreamData, Stream: 3}, api.CodeState},
		{api.Frame{Kind: api.KStreamDataBlocked, Stream: 19}, api.CodeStreams},
	} {
		c, _ := met(t, nil)
		hears(t, c, 50000, x.f)
		closes(t, "C4: a frame of streams", c, x.code, int64(x.f.Kind))
	}
	c, _ := met(t, nil)
	hears(t, c, 50000, api.Frame{Kind: api.KStream, Stream: 1, Data: []byte("ab"), Fin: true})
	hears(t, c, 50000, api.Frame{Kind: api.KReset, Stream: 1, Size: 3})
	closes(t, "C4: against the final size", c, api.CodeFinal, api.KReset)
	c, _ = met(t, nil)
	hears(t, c, 50000, api.Frame{Kind: api.KMaxData, Limit: 70000}, api.Frame{Kind: api.KMaxStreams, Limit: 9}, api.Frame{Kind: api.KStop, Stream: 1, Code: 6})
	out, _ := c.end.streams.Credit()
	v, _ := c.Stream(1)
	is(t, "C4: they are heeded", []any{out.Limit, v.ResetSent}, []any{int64(70000), true})
	_, l := sends(t, "C5: its reset", c, 50000)
	is(t, "C5: its reset", l[0].frames[1:], []api.Frame{{Kind: api.KReset, Stream: 1, Code: 6}})
}

// C4: a close that comes: it drains, and knows what it says.
func TestCloseComes(t *testing.T) {
	for _, x := range []struct {
		space int
		f     api.Frame
	}{
		{0, api.Frame{Kind: api.KClose, Code: 10, Size: 6, Data: []byte("no")}}, {1, api.Frame{Kind: api.KClose, Code: api.MaxNumber, Size: api.MaxNumber}},
		{2, api.Frame{Kind: api.KClose, Code: 0, Size: 0, Data: repeat('x', 1000)}}, {2, api.Frame{Kind: api.KClose, Own: true, Code: 7, Data: []byte("bye")}},
	} {
		c := agreed(t)
		p := long(x.space, "\x09", 7, payload(t, x.f))
		if x.space == api.App {
			p = short(7, payload(t, x.f))
		}
		c.Receive(3, datagram(t, p), api.Unmarked)
		v := c.View()
		is(t, "C4: a close that comes", []any{v.State, v.Told, v.Own, v.Code, v.Kind, string(v.Reason)},
			[]any{api.StateDraining, true, x.f.Own, x.f.Code, x.f.Size, string(x.f.Data)})
		is(t, "C8: its end", []int64{v.EndAt, v.IdleAt}, []int64{3 + 3*period(c, 25000), api.Never})
		is(t, "C3: it wasn't taken", c.end.seen[x.space].Fresh(7), true)
		silent(t, "C8: draining", c, 3)
	}
}
