package conn

import (
	"slices"
	"testing"

	"portage/api"
)

// passes holds that a datagram is passed over: nothing changes but how many bytes came.
func passes(t *testing.T, say string, e *Conn, b []byte) {
	t.Helper()
	got := e.View().Got
	unchanged(t, say, e, func() {
		e.Receive(0, b, api.Marked)
		if n := e.View().Got; n != got+int64(len(b)) {
			t.Errorf("%s: Got %d, want %d", say, n, got+int64(len(b)))
		}
		e.end.got = got
	})
}

// heeds holds that a packet is processed: its number has come.
func heeds(t *testing.T, say string, e *Conn, p api.Packet) {
	t.Helper()
	if e.end.seen[p.Space] == nil || !e.end.seen[p.Space].Fresh(p.Number) {
		t.Fatalf("%s: the number %d of %d isn't fresh", say, p.Number, p.Space)
	}
	e.Receive(0, datagram(t, p), api.Unmarked)
	if s := e.end.seen[p.Space]; s != nil && s.Fresh(p.Number) {
		t.Errorf("%s: %+v was passed over", say, p)
	}
}

// C3: what comes counts, in every state but over.
func TestGot(t *testing.T) {
	for role := range 2 {
		for state, e := range stated(t, role) {
			got := e.View().Got
			n := int64(0)
			for _, size := range []int{0, 1, 7, 1200, 9000, 9001, 65536} {
				e.Receive(50000, make([]byte, size), api.Unmarked)
				n += int64(size)
			}
			if state == api.StateOver {
				n = 0
			}
			is(t, "C3: Got", e.View().Got, got+n)
			is(t, "C3: the state", e.View().State, state)
		}
	}
}

// C3: nothing else in an end that drains or is over, but that its clock goes on.
func TestDeaf(t *testing.T) {
	for role := range 2 {
		for _, state := range []int{api.StateDraining, api.StateOver} {
			e := stated(t, role)[state]
			b := datagram(t, short(next(e, api.App), payload(t, ping(), api.Frame{Kind: api.KClose, Own: true, Code: 99})))
			got := e.View().Got
			unchanged(t, "C3: it is deaf", e, func() {
				e.Receive(50000, b, api.Marked)
				e.end.got = got
			})
			silent(t, "C5: draining, over", e, 50000)
		}
	}
}

// C3, 1: the Dst isn't the end's id.
func TestPassedOverByDst(t *testing.T) {
	hi := payload(t, padding(1))
	for _, dst := range []string{"", "\x05", "\x08", "\x09\x09", "\x00\x09", "\x09\x00"} {
		passes(t, "C3: a client", client(t), datagram(t, long(api.Initial, dst, 0, hi)))
		passes(t, "C3: a client, Handshake", answered(t), datagram(t, long(api.Handshake, dst, 0, hi)))
		passes(t, "C3: a server, Handshake", greeted(t, 1200), datagram(t, long(api.Handshake, dst, 0, hi)))
	}
	c, s := met(t, nil)
	for _, e := range []*Conn{c, s} {
		p := short(next(e, api.App), hi)
		p.Dst = []byte{8}
		passes(t, "C3: App", e, datagram(t, p))
		p.Dst = []byte{9}
		heeds(t, "C3: App", e, p)
	}
	heeds(t, "C3: a client", client(t), long(api.Initial, "\x09", 0, hi))
	heeds(t, "C3: a client", answered(t), long(api.Handshake, "\x09", 0, hi))
	heeds(t, "C3: a server", greeted(t, 1200), long(api.Handshake, "\x09", 0, hi))
}

// C3, 1: short packets have the id's length, whatever that is.
func TestLongIDs(t *testing.T) {
	id := "twenty bytes of an id"[:20]
	s := made(t, changed(api.Server, func(c *api.Config) { c.ID = []byte(id) }), api.Server)
	c := client(t)
	exchange(t, c, s, 0)
	is(t, "C3: the id", string(c.View().There), id)
	s.Receive(0, datagram(t, short(next(s, api.App), payload(t, padding(30)))), api.Unmarked)
	p := short(next(s, api.App), payload(t, ping()))
	p.Dst = []byte(id)
	heeds(t, "C3: a long id", s, p)
	p.Dst = []byte(id[:19] + "X")
	p.Number++
	passes(t, "C3: another long id", s, datagram(t, p))
}

// C3, 1: a server takes an Initial packet with any Dst, then with that one or its own.
func TestFirstDst(t *testing.T) {
	hi := payload(t, padding(1))
	for _, dst := range []string{"", "\x05", "\x09", "twenty bytes of an id"[:20]} {
		s := server(t)
		heeds(t, "C3: any Dst", s, long(api.Initial, dst, 0, hi))
		heeds(t, "C3: the first Dst", s, long(api.Initial, dst, 1, hi))
		heeds(t, "C3: its own id", s, long(api.Initial, "\x09", 2, hi))
		for _, other := range []string{"", "\x05", "\x05\x05", "twenty bytes of an ID"[:20]} {
			if other != dst {
				passes(t, "C3: another Dst", s, datagram(t, long(api.Initial, other, 3, hi)))
			}
		}
	}
	// Of a Handshake packet the first Dst doesn't count, and a client takes none but its own.
	s := greeted(t, 1200)
	passes(t, "C3: the first Dst of Initial alone", s, datagram(t, long(api.Handshake, "\x05", 0, hi)))
	c := client(t)
	heeds(t, "C3: a client", c, long(api.Initial, "\x09", 0, hi))
	passes(t, "C3: a client's To", c, datagram(t, long(api.Initial, "\x05", 1, hi)))
	// A packet that is passed over isn't the first one.
	s = server(t)
	passes(t, "C3: Handshake isn't open", blockedServer(t, s), datagram(t, long(api.Handshake, "\x09", 0, hi)))
	is(t, "C9: There", len(s.View().There), 0)
	heeds(t, "C3: any Dst still", s, long(api.Initial, "\x07", 0, hi))
}

// blockedServer is a server that has been handed something already, so that it knows that it may send little.
func blockedServer(t *testing.T, s *Conn) *Conn {
	s.Receive(0, []byte{0}, api.Unmarked)
	return s
}

// C3, 1 and 2: a long packet's Src is the other end's id from the first one on; another one is passed over.
func TestSrc(t *testing.T) {
	hi := payload(t, padding(1))
	for _, src := range []string{"", "\x07", "\x09", "twenty bytes of an id"[:20]} {
		with := func(p api.Packet, src string) api.Packet {
			p.Src = []byte(src)
			return p
		}
		c, s := client(t), server(t)
		first, _ := sends(t, "HELLO", c, 0)
		is(t, "C5: a client calls it To", sees(t, first, 1)[0].Dst, []byte{5})
		for _, e := range []*Conn{c, s} {
			is(t, "C9: There, ahead of it", len(e.View().There), 0)
			heeds(t, "C3: the first Src", e, with(long(api.Initial, "\x09", 0, hi), src))
			is(t, "C9: There", string(e.View().There), src)
			is(t, "C3: is it known?", e.end.known, true)
			for _, other := range []string{"", "\x07", "\x09", "\x09\x09"} {
				if other != src {
					passes(t, "C3: another Src", e, datagram(t, with(long(api.Initial, "\x09", 1, hi), other)))
				}
			}
			is(t, "C9: There stays", string(e.View().There), src)
			heeds(t, "C3: the same Src", e, with(long(api.Initial, "\x09", 1, hi), src))
		}
		// From then on packets go there.
		s.Receive(0, datagram(t, with(long(api.Initial, "\x09", 2, payload(t, crypto(0, helloBytes), padding(1100))), src)), api.Unmarked)
		b, _, ok := s.Send(0)
		if l := sees(t, b, 1); !ok || string(l[0].Dst) != src || string(l[1].Dst) != src || string(l[0].Src) != "\x09" || string(l[1].Src) != "\x09" {
			t.Errorf("C5: to %q: %+v", src, l)
		}
	}
}

// C3, 1: in a space that isn't open nothing is processed.
func TestPassedOverBySpace(t *testing.T) {
	hi := payload(t, padding(1))
	handshake, app := long(api.Handshake, "\x09", 0, hi), short(0, hi)
	passes(t, "C3: Handshake of a client that has no ANSWER", client(t), datagram(t, handshake))
	passes(t, "C3: App of a client that has no ANSWER", client(t), datagram(t, app))
	passes(t, "C3: App of a client that isn't complete", answered(t), datagram(t, app))
	passes(t, "C3: Handshake of a server", blockedServer(t, server(t)), datagram(t, handshake))
	passes(t, "C3: App of a server", blockedServer(t, server(t)), datagram(t, app))
	passes(t, "C3: App of a server that isn't complete", greeted(t, 1200), datagram(t, app))
	heeds(t, "C3: Handshake", answered(t), handshake)
	heeds(t, "C3: Handshake", greeted(t, 1200), handshake)
	heeds(t, "C3: App", agreed(t), app)
	// And in one that was dropped.
	c, s := met(t, nil)
	for _, e := range []*Conn{c, s} {
		for space := range 2 {
			passes(t, "C3: a space that was dropped", e, datagram(t, long(space, "\x09", 77, hi)))
		}
	}
	c = agreed(t)
	sends(t, "DONE", c, 0)
	passes(t, "C3: Initial, dropped by a client", c, datagram(t, long(api.Initial, "\x09", 77, hi)))
	s = greeted(t, 1200)
	heeds(t, "C3: Handshake", s, handshake)
	passes(t, "C3: Initial, dropped by a server", s, datagram(t, long(api.Initial, "\x09", 77, hi)))
}

// C3, 1: what has come already is passed over, and what was forgotten.
func TestPassedOverByNumber(t *testing.T) {
	hi := payload(t, ping())
	s := greeted(t, 1200)
	passes(t, "C3: twice", s, hello(t, 1200))
	heeds(t, "C3: another number", s, long(api.Initial, "\x09", 5, hi))
	passes(t, "C3: twice", s, datagram(t, long(api.Initial, "\x09", 5, payload(t, padding(3)))))
	heeds(t, "C3: a lower number", s, long(api.Initial, "\x09", 3, hi))
	// Each space has its own numbers.
	heeds(t, "C3: the same number", s, long(api.Handshake, "\x09", 0, hi))
	c, s := met(t, nil)
	for _, e := range []*Conn{c, s} {
		at := next(e, api.App)
		heeds(t, "C3: App", e, short(at, hi))
		passes(t, "C3: App, twice", e, datagram(t, short(at, hi)))
		// Both in one datagram: the second one is passed over.
		b := datagram(t, long(api.Handshake, "\x09", 0, hi), short(at+1, hi))
		e.Receive(0, b, api.Unmarked)
		is(t, "C3: behind one that is passed over", e.end.seen[2].Fresh(at+1), false)
		// 33 runs of numbers: the lowest goes.
		for i := range int64(33) {
			heeds(t, "C3: holes", e, short(at+10+2*i, hi))
		}
		floor := e.end.seen[2].Floor()
		if floor < 0 {
			t.Error("P8.3: nothing was forgotten")
		}
		passes(t, "C3: forgotten", e, datagram(t, short(floor, hi)))
	}
}

// C3: numbers are found by the greatest that was taken in their space.
func TestNumbers(t *testing.T) {
	hi := payload(t, ping())
	c, _ := met(t, func(c *api.Config) { c.First = [3]int64{1 << 30, 1 << 29, 1<<30 - 5} })
	at := next(c, api.App)
	if at < 1<<30-5 {
		t.Fatalf("the numbers are %d", at)
	}
	p := short(at, hi)
	p.Width = 1
	c.Receive(50000, datagram(t, p), api.Unmarked)
	is(t, "C3: a number cut to a byte", next(c, api.App), at+1)
	p.Number, p.Width = at+20000, 2
	c.Receive(50000, datagram(t, p), api.Unmarked)
	is(t, "C3: a number cut to two bytes", next(c, api.App), at+20001)
	// Of a datagram each packet's number is found by what was taken ahead of it.
	s := greeted(t, 1200)
	a, b := long(api.Initial, "\x09", 100, hi), long(api.Initial, "\x09", 100+256, hi)
	b.Width = 1
	s.Receive(0, datagram(t, a, b), api.Unmarked)
	is(t, "C3: the largest stays for a datagram", next(s, api.Initial), 101)
}

// C3, 3: a payload that is empty closes with CodeProtocol, one that can't be read with CodeFrame.
func TestPayloads(t *testing.T) {
	for say, x := range map[string]struct {
		payload string
		code    api.Code
	}{
		"no frame":                  {"", api.CodeProtocol},
		"no such frame":             {"\x07", api.CodeFrame},
		"a type that is too long":   {"\x40\x01", api.CodeFrame},
		"a frame that is cut":       {"\x06\x00\x05abc", api.CodeFrame},
		"a field that may not be":   {"\x02\x05\x00\x00\x06", api.CodeFrame},
		"a good one ahead":          {"\x01\x01\x1f", api.CodeFrame},
		"one that may not stand":    {"\x1e\x07", api.CodeFrame},
		"a close, and what is none": {"\x1c\x01\x00\x00\x07", api.CodeFrame},
	} {
		for _, space := range []int{api.Initial, api.Handshake, api.App} {
			c := agreed(t)
			p := long(space, "\x09", 7, []byte(x.payload))
			if space == api.App {
				p = short(7, []byte(x.payload))
			}
			c.Receive(0, datagram(t, p), api.Unmarked)
			closes(t, "C3: "+say, c, x.code, 0)
			is(t, "C3: nothing of it was taken", c.end.seen[space].Fresh(7), true)
		}
		// The first packet: its Src is known all the same, so that it can be told.
		s := server(t)
		s.Receive(0, datagram(t, long(api.Initial, "\x05", 0, []byte(x.payload))), api.Unmarked)
		closes(t, "C3: "+say, s, x.code, 0)
		is(t, "C3: its Src", string(s.View().There), "\x09")
		_, l := sends(t, "C5: the close", s, 0)
		is(t, "C5: the close", l[0].frames, []api.Frame{{Kind: api.KClose, Code: int64(x.code)}})
	}
}

// C3: a datagram's packets are processed in order, as long as the end is live, up to the first that can't be read.
func TestPackets(t *testing.T) {
	hi := payload(t, ping())
	bad, end := []byte{7}, payload(t, api.Frame{Kind: api.KClose, Code: 3, Size: 4, Data: []byte("x")})
	for _, x := range []struct {
		say   string
		l     []api.Packet
		more  string
		state int
		fresh []int64 // of these numbers of Handshake none came
		came  []int64
	}{
		{"two", []api.Packet{long(1, "\x09", 5, hi), long(1, "\x09", 6, hi)}, "", 0, []int64{7}, []int64{5, 6}},
		{"two of one number", []api.Packet{long(1, "\x09", 5, hi), long(1, "\x09", 5, bad)}, "", 0, nil, []int64{5}},
		{"a bad one behind", []api.Packet{long(1, "\x09", 5, hi), long(1, "\x09", 6, bad), long(1, "\x09", 7, hi)}, "", 1, []int64{6, 7}, []int64{5}},
		{"a bad one ahead", []api.Packet{long(1, "\x09", 5, bad), long(1, "\x09", 6, hi)}, "", 1, []int64{5, 6}, nil},
		{"a bad one that is passed over", []api.Packet{long(1, "\x05", 5, bad), long(1, "\x09", 6, hi)}, "", 0, []int64{5}, []int64{6}},
		{"a close ahead", []api.Packet{long(1, "\x09", 5, end), long(1, "\x09", 6, bad)}, "", 2, []int64{5, 6}, nil},
		{"what can't be read behind", []api.Packet{long(1, "\x09", 5, hi)}, "\x00\x00", 0, nil, []int64{5}},
		{"what can't be read between", []api.Packet{long(1, "\x09", 5, hi)}, "\xe3\x00\x00\x00\x02" + string(datagram(t, long(1, "\x09", 6, hi))), 0, []int64{6}, []int64{5}},
		{"zeros", nil, "\x00\x00\x00", 0, []int64{5}, nil},
		{"nothing", nil, "", 0, []int64{5}, nil},
	} {
		c := answered(t)
		c.Receive(0, append(datagram(t, x.l...), x.more...), api.Unmarked)
		is(t, "C3: "+x.say, c.View().State, x.state)
		for _, n := range x.fresh {
			is(t, "C3: that came, "+x.say, c.end.seen[1].Fresh(n), true)
		}
		for _, n := range x.came {
			is(t, "C3: that didn't come, "+x.say, c.end.seen[1].Fresh(n), false)
		}
	}
}

// C3, 4: a packet's frames are processed in order, as long as the end is live.
func TestFrames(t *testing.T) {
	end := api.Frame{Kind: api.KClose, Own: true, Code: 3, Data: []byte("x")}
	c, _ := met(t, nil)
	hears(t, c, 50000, api.Frame{Kind: api.KStream, Stream: 1, Data: []byte("a")}, end, api.Frame{Kind: api.KStream, Stream: 1, Offset: 1, Data: []byte("b")}, api.Frame{Kind: api.KStream, Stream: 2})
	is(t, "C3: the state", c.View().State, api.StateDraining)
	b, _, _ := c.Read(1, 9)
	is(t, "C3: as long as it is live", string(b), "a")
	c, _ = met(t, nil)
	hears(t, c, 50000, api.Frame{Kind: api.KStream, Stream: 1, Data: []byte("a")}, api.Frame{Kind: api.KStream, Stream: 2}, end, api.Frame{Kind: api.KStream, Stream: 1, Offset: 1, Data: []byte("b")})
	closes(t, "C4: its own stream, that isn't open", c, api.CodeState, api.KStream)
	b, _, _ = c.Read(1, 9)
	is(t, "C3: what stood ahead", string(b), "a")
}

// C3, 5: what is processed is acknowledged: at once in the handshake's spaces, later in App; what doesn't elicit waits for something else.
func TestTaken(t *testing.T) {
	s := greeted(t, 1200)
	is(t, "C3: HELLO elicits", s.end.seen[0].Deadline(), 0)
	s = server(t)
	s.Receive(3, datagram(t, long(api.Initial, "\x09", 0, payload(t, padding(4), ack(0, 0)))), api.Unmarked)
	closes(t, "C4: an ack of what was never sent", s, api.CodeProtocol, api.KAck)
	s = server(t)
	s.Receive(3, datagram(t, long(api.Initial, "\x09", 0, payload(t, padding(1000)))), api.Unmarked)
	is(t, "C3: padding doesn't elicit", []any{s.end.seen[0].Deadline(), s.end.seen[0].Any()}, []any{int64(api.Never), true})
	silent(t, "C5: nothing waits", s, 3)
	s.Receive(4, datagram(t, long(api.Initial, "\x09", 1, payload(t, padding(4), ping(), padding(3)))), api.Unmarked)
	is(t, "C3: a ping elicits", s.end.seen[0].Deadline(), 4)
	_, l := sends(t, "C5: the ack", s, 4)
	is(t, "C5: the ack", l[0].frames, []api.Frame{ack(0, 1)})

	for role := range 2 {
		both := [2]*Conn{}
		both[0], both[1] = met(t, nil)
		e := both[role]
		hears(t, e, 50000, padding(3))
		is(t, "C3: padding", e.end.seen[2].Deadline(), api.Never)
		hears(t, e, 50010, api.Frame{Kind: api.KResponse, Data: []byte("12345678")})
		is(t, "C3: a response elicits", e.end.seen[2].Deadline(), 75010)
		silent(t, "C5: the ack waits", e, 75009)
		hears(t, e, 75009, ping())
		is(t, "C3: the second one", e.end.seen[2].Deadline(), 75009)
		_, l := sends(t, "C5: the ack", e, 75009)
		is(t, "C5: the ack", kinds(l[0]), []int{api.KAck})
		silent(t, "C5: once", e, 75009)
	}
}

// C3, 5: marks are counted, of each packet, and told.
func TestMarks(t *testing.T) {
	s := greeted(t, 1200)
	hi := payload(t, ping())
	for _, x := range []struct {
		mark   int
		counts [3]int64
	}{{api.Unmarked, [3]int64{}}, {api.Capable, [3]int64{2}}, {api.Marked, [3]int64{2, 0, 2}}, {7, [3]int64{2, 0, 2}}, {-1, [3]int64{2, 0, 2}}} {
		at := next(s, api.Initial)
		s.Receive(0, datagram(t, long(0, "\x09", at, hi), long(0, "\x09", at+1, hi)), x.mark)
		_, l := sends(t, "C5: the ack", s, 0)
		f := l[0].frames[0]
		is(t, "C3: the counts", []any{f.Kind, f.Marks, f.Counts}, []any{api.KAck, x.counts != [3]int64{}, x.counts})
	}
	e, _ := met(t, nil)
	e.Receive(50000, datagram(t, short(next(e, 2), hi)), api.Marked)
	is(t, "C3: marked, it is told at once", e.end.seen[2].Deadline(), 50000)
}

// C3, 6: a server that has processed a Handshake packet is validated, and drops Initial; nothing else validates it.
func TestValidated(t *testing.T) {
	for _, hi := range [][]byte{payload(t, ping()), payload(t, padding(1)), payload(t, crypto(0, "\x04"))} {
		s := greeted(t, 1200)
		is(t, "C3: not yet", []any{s.View().Validated, s.View().Open}, []any{false, [3]bool{true, true, false}})
		s.Receive(0, datagram(t, long(api.Initial, "\x09", 8, payload(t, ping()))), api.Unmarked)
		s.Receive(0, datagram(t, long(api.Handshake, "\x05", 0, hi)), api.Unmarked)
		is(t, "C3: not yet", s.View().Validated, false)
		s.Receive(0, datagram(t, long(api.Handshake, "\x09", 0, hi)), api.Unmarked)
		is(t, "C3: validated", []any{s.View().Validated, s.View().Open}, []any{true, [3]bool{false, true, false}})
		is(t, "C7: the space is dropped", []any{s.end.loss.View().Spaces[0].Open, s.end.hand.Open(0), s.end.seen[0] == nil}, []any{false, false, true})
	}
	// One that closes, or lets it drain, doesn't.
	for _, f := range []api.Frame{{Kind: api.KDone}, {Kind: api.KClose, Code: 1}} {
		s := greeted(t, 1200)
		s.Receive(0, datagram(t, long(api.Handshake, "\x09", 0, payload(t, f))), api.Unmarked)
		is(t, "C3: not live any more", []any{s.View().Validated, s.View().Open[0]}, []any{false, true})
	}
	// A client always is, and drops nothing by what comes.
	c := agreed(t)
	is(t, "C3: a client", []any{c.View().Validated, c.View().Open}, []any{true, [3]bool{true, true, true}})
	is(t, "C3: a client", client(t).View().Validated, true)
}

// C3, 6: what is processed sets the idle time anew; what is passed over, closes or lets it drain doesn't.
func TestIdleByReceive(t *testing.T) {
	idle := func(c *api.Config) { c.Idle = 5000000 }
	for role := range 2 {
		both := [2]*Conn{}
		both[0], both[1] = met(t, idle)
		e := both[role]
		at := e.View().IdleAt
		e.Receive(60000, []byte("what is no packet"), api.Unmarked)
		p := short(next(e, 2), payload(t, ping()))
		p.Dst = []byte{8}
		e.Receive(60001, datagram(t, p), api.Unmarked)
		e.Receive(60002, datagram(t, short(next(e, 2)-1, payload(t, ping()))), api.Unmarked)
		is(t, "C3: passed over", e.View().IdleAt, at)
		for i, f := range []api.Frame{ping(), padding(1), {Kind: api.KResponse, Data: make([]byte, 8)}} {
			hears(t, e, 70000+int64(i), f)
			is(t, "C3: processed", e.View().IdleAt, 5070000+int64(i))
		}
		for _, f := range []api.Frame{{Kind: api.KClose, Code: 1}, {Kind: api.KStream, Stream: 80}} {
			both[0], both[1] = met(t, idle)
			e := both[role]
			hears(t, e, 70000, f)
			is(t, "C8: none", e.View().IdleAt, api.Never)
		}
	}
}

// C3: closing, each datagram is counted, and with the 1st, 2nd, 4th, 8th and so on the close is due once more.
func TestKnocks(t *testing.T) {
	for role := range 2 {
		e := stated(t, role)[api.StateClosing]
		sends(t, "C5: the close", e, 50000)
		silent(t, "C5: once", e, 50000)
		for n := 1; n <= 600; n++ {
			b := [][]byte{nil, {1}, make([]byte, 1300), datagram(t, short(next(e, 2), payload(t, ping())))}[n%4]
			e.Receive(50000, b, api.Unmarked)
			if slices.Contains([]int{1, 2, 4, 8, 16, 32, 64, 128, 256, 512}, n) {
				_, l := sends(t, "C5: the close once more", e, 50000)
				is(t, "C5: the close", kinds(l[0]), []int{api.KClose})
			}
			silent(t, "C3: between, and once", e, 50000)
		}
		// What waits is due once, however many have come.
		e = stated(t, role)[api.StateClosing]
		for range 20 {
			e.Receive(50000, nil, api.Unmarked)
		}
		sends(t, "C5: the close", e, 50000)
		silent(t, "C5: once", e, 50000)
		for n := 21; n < 32; n++ {
			e.Receive(50000, nil, api.Unmarked)
			silent(t, "C3: between", e, 50000)
		}
		e.Receive(50000, nil, api.Unmarked)
		sends(t, "C3: the 32nd", e, 50000)
	}
	// The datagram that closes it isn't counted, nor those ahead.
	e, _ := met(t, nil)
	hears(t, e, 50000, api.Frame{Kind: api.KStream, Stream: 2})
	sends(t, "C5: the close", e, 50000)
	for n := 1; n <= 4; n++ {
		e.Receive(50000, nil, api.Unmarked)
		if n == 3 {
			silent(t, "C3: the 3rd", e, 50000)
		} else {
			sends(t, "C3: the 1st, 2nd, 4th", e, 50000)
		}
	}
}

// Whatever panics inside, Receive doesn't: it closes (R1).
func TestPanicInside(t *testing.T) {
	e, _ := met(t, nil)
	e.end.streams = nil
	hears(t, e, 50000, api.Frame{Kind: api.KStream, Stream: 1})
	is(t, "R1: a panic that nobody means", []any{e.end.state, e.end.parting.Code}, []any{api.StateClosing, int64(api.CodeInternal)})
	// The mutex is let go.
	is(t, "C2: Close", e.Close(50000, 1, nil), api.ErrConnOver)
}
