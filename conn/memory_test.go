package conn

import (
	"reflect"
	"sync"
	"testing"

	"portage/api"
)

// roomy is a list of these bytes with the same ones behind it, as spare room.
func roomy(b []byte) []byte { return append(append([]byte(nil), b...), b...)[:len(b)] }

// spoil writes over bytes, with the room behind them.
func spoil(b []byte) {
	for i := range b[:cap(b)] {
		b[:cap(b)][i] ^= 0xff
	}
}

// asRoomy holds that a roomy list is as it was.
func asRoomy(t *testing.T, say string, b, was []byte) {
	t.Helper()
	is(t, "R3: it has changed what it was handed, "+say, string(b[:2*len(was)]), string(was)+string(was))
}

// R3: the configuration's ids are neither changed nor kept.
func TestConfigIsCopied(t *testing.T) {
	for role := range 2 {
		id, to := roomy([]byte("an id")), roomy([]byte("to"))
		c := changed(role, func(c *api.Config) {
			c.ID = id
			if role == api.Client {
				c.To = to
			}
		})
		is(t, "C1: Check", Check(c, role), api.OK)
		e := made(t, c, role)
		asRoomy(t, "an id", id, []byte("an id"))
		asRoomy(t, "to", to, []byte("to"))
		unchanged(t, "R3: the configuration is written over", e, func() { spoil(id); spoil(to) })
	}
}

// R3: what is handed in is neither changed nor kept.
func TestHandedIn(t *testing.T) {
	c, s := client(t), server(t)
	hands := func(e *Conn, b []byte, mark int) {
		t.Helper()
		x := roomy(b)
		e.Receive(0, x, mark)
		asRoomy(t, "Receive", x, b)
		unchanged(t, "R3: a datagram is written over", e, func() { spoil(x) })
	}
	b, _, _ := c.Send(0)
	hands(s, b, 0)
	b, _, _ = s.Send(0)
	hands(c, b, 0)
	exchange(t, c, s, 0)
	for _, l := range [][]api.Frame{
		{{Kind: api.KStream, Stream: 1, Offset: 4, Data: []byte("efg")}, {Kind: api.KStream, Stream: 1, Data: []byte("abc")}},
		{{Kind: api.KChallenge, Data: []byte("12345678")}, ack(0, 0), crypto(0, "abc")},
		{{Kind: api.KClose, Own: true, Code: 3, Data: []byte("why")}},
	} {
		e, _ := met(t, nil)
		hands(e, datagram(t, short(next(e, 2), payload(t, l...))), api.Marked)
	}
	e, _ := met(t, nil)
	id, _ := e.Open(false)
	x := roomy([]byte("hello"))
	is(t, "C2: Write", e.Write(id, x), api.OK)
	asRoomy(t, "Write", x, []byte("hello"))
	unchanged(t, "R3: what was written is written over", e, func() { spoil(x) })
	x = roomy([]byte("bye"))
	is(t, "C2: Close", e.Close(0, 7, x), api.OK)
	asRoomy(t, "Close", x, []byte("bye"))
	unchanged(t, "R3: a reason is written over", e, func() { spoil(x) })
}

// R3: what is answered is new memory, spare room too, and no two lists share any.
func TestAnswered(t *testing.T) {
	spoilView := func(v api.ConnView) { spoil(v.There); spoil(v.Reason) }
	for role := range 2 {
		for _, e := range stated(t, role) {
			theirs := int64(1 - role)
			unchanged(t, "R3: a view is written over", e, func() { spoilView(e.View()) })
			v, u := e.View(), e.View()
			spoilView(v)
			is(t, "R3: two views share memory", u, e.View())
			l := e.Streams()
			unchanged(t, "R3: ids are written over", e, func() { l[0] = 77 })
			s, _ := e.Stream(theirs)
			unchanged(t, "R3: a stream's view is written over", e, func() {
				for _, r := range [][]api.Run{s.Recv.Runs, s.Send.Acked, s.Send.Lost} {
					for i := range r[:cap(r)] {
						r[:cap(r)][i] = api.Run{Lo: -7, Hi: 77}
					}
				}
			})
			b, _, _ := e.Read(theirs, 3)
			unchanged(t, "R3: what was read is written over", e, func() { spoil(b) })
			b, _, _ = e.Read(theirs, 3)
			is(t, "R3: what was read is written over", string(b), "lo")
			events := e.Events()
			unchanged(t, "R3: events are written over", e, func() {
				for i := range events[:cap(events)] {
					events[:cap(events)][i] = api.Event{Kind: 99}
				}
			})
			if b, _, ok := e.Send(50000); ok {
				unchanged(t, "R3: a datagram is written over", e, func() { spoil(b) })
			}
		}
	}
	// Datagrams of all kinds.
	c, s := client(t), server(t)
	for range 4 {
		for _, x := range [][2]*Conn{{c, s}, {s, c}} {
			for b, mark, ok := x[0].Send(0); ok; b, mark, ok = x[0].Send(0) {
				y := roomy(b)
				unchanged(t, "R3: a datagram is written over", x[0], func() { spoil(b) })
				x[1].Receive(0, y, mark)
			}
		}
	}
	c.Close(0, 7, []byte("bye"))
	first, _ := sends(t, "C5: the close", c, 0)
	text := string(first)
	unchanged(t, "R3: a close is written over", c, func() { spoil(first) })
	c.Receive(0, nil, 0)
	second, l := sends(t, "C5: the close once more", c, 0)
	is(t, "R3: the close once more", []any{string(l[0].frames[0].Data), len(second)}, []any{"bye", len(text)})
}

// A nil list and an empty one are the same, handed in.
func TestNil(t *testing.T) {
	a, b := made(t, changed(1, func(c *api.Config) { c.To = nil }), 1), made(t, changed(1, func(c *api.Config) { c.To = []byte{} }), 1)
	for i, e := range []*Conn{a, b} {
		empty := [][]byte{nil, {}}[i]
		e.Receive(3, empty, 0)
		e.Close(4, 9, empty)
	}
	is(t, "R3: nil and empty", bare(a.View()), bare(b.View()))
	for state, e := range stated(t, 0) {
		if state == api.StateLive {
			unchanged(t, "R3: nothing written", e, func() { e.Write(1, nil); e.Write(1, []byte{}) })
		}
	}
}

// R4: two pairs of ends that are used in turns know nothing of one another: each is as one that is used alone.
func TestInTurns(t *testing.T) {
	// A row of steps of a client and a server, with something else in it where it is the other pair's.
	steps := func(c, s *Conn, more int) []func() {
		send := func(from, to *Conn, now int64) func() {
			return func() {
				for b, mark, ok := from.Send(now); ok; b, mark, ok = from.Send(now) {
					to.Receive(now+int64(more), b, mark)
				}
			}
		}
		return []func(){
			send(c, s, 0), send(s, c, 100), send(c, s, 200), send(s, c, 300),
			func() { c.Open(more > 5) }, func() { c.Write(int64(more/6*2), make([]byte, 100*more)) }, send(c, s, 400),
			func() { s.Timeout(30000) }, send(s, c, 30000), func() { c.Timeout(90000) }, send(c, s, 90000),
			func() { s.Close(95000, int64(more), []byte("bye")[:more%4]) }, send(s, c, 95000), func() { c.Timeout(1 << 40) },
		}
	}
	alone := func(more int) [2]string {
		c, s := client(t), server(t)
		for _, do := range steps(c, s, more) {
			do()
		}
		return [2]string{picture(c), picture(s)}
	}
	a, b, c, d := client(t), server(t), client(t), server(t)
	first, second := steps(a, b, 3), steps(c, d, 7)
	for i := range first {
		unchanged(t, "R4: another end", d, first[i])
		unchanged(t, "R4: another end", a, second[i])
	}
	is(t, "R4: in turns it is otherwise than alone", [2]string{picture(a), picture(b)}, alone(3))
	is(t, "R4: in turns it is otherwise than alone", [2]string{picture(c), picture(d)}, alone(7))
}

// An end may be asked from several goroutines at one time: each call is done as if alone.
func TestGoroutines(t *testing.T) {
	c, s := met(t, func(c *api.Config) { c.Pace = true })
	var all sync.WaitGroup
	for i := range int64(4) {
		id, err := c.Open(false)
		is(t, "C2: Open", []any{id, err}, []any{4 * i, api.OK})
		all.Go(func() {
			for range 50 {
				c.Write(id, []byte("0123456789"))
				c.Rank(id, int(id)%8)
				c.View()
				c.Deadline()
				c.Streams()
				c.Stream(id)
				c.Events()
			}
			c.Fin(id)
			c.Stop(id, 3)
		})
		all.Go(func() {
			for now := range int64(50) {
				if b, mark, ok := c.Send(50000 + now); ok {
					s.Receive(50000+now, b, mark)
				}
				if b, mark, ok := s.Send(50000 + now); ok {
					c.Receive(50000+now, b, mark)
				}
				s.Accept()
				c.Timeout(50000)
			}
		})
	}
	all.Wait()
	for now := int64(50000); now < 60000000; now += 25000 {
		c.Timeout(now)
		s.Timeout(now)
		exchange(t, c, s, now)
	}
	for i := range int64(4) {
		b, end, err := s.Read(4*i, 9999)
		for more := b; len(more) > 0 && !end; {
			more, end, err = s.Read(4*i, 9999)
			b = append(b, more...)
		}
		if len(b) != 500 || err != api.OK && !end {
			t.Errorf("C2: stream %d: %d bytes, %v, %d", 4*i, len(b), end, err)
		}
	}
	lives(t, "T1", c)
	lives(t, "T1", s)
	c.Close(0, 1, nil)
	is(t, "C2: the mutex is let go", reflect.DeepEqual(c.View(), c.View()), true)
}
