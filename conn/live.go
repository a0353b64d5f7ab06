package conn

import (
	"portage/api"
	"portage/pack"
)

// sendLive gives the next datagram of a live end; none: nothing may go now, or nothing waits (C5).
func (e *end) sendLive() []byte {
	told := e.tellsAny()
	l := e.drafts(told)
	if !e.isLive() {
		return nil
	}
	b, counted := e.dispatch(l)
	e.tellLimited(counted, told)
	e.follow(l)
	return b
}

// tellsAny tells whether an open space tells something.
func (e *end) tellsAny() bool {
	for space := range api.Spaces {
		if e.hand.Open(space) && e.tells(space) {
			return true
		}
	}
	return false
}

// tells tells whether something of an open space is to be told.
func (e *end) tells(space int) bool {
	return e.hand.Waits(space) || space == api.App && (e.done || e.response != nil || e.streams.Waits())
}

// drafts puts together the packets that go now; told: whether a space told something as that was asked.
func (e *end) drafts(told bool) []*draft {
	var l []*draft
	left := int(e.allowance())
	for space := range api.Spaces {
		if !e.hand.Open(space) {
			continue
		}
		if left < leastLeft {
			break
		}
		pings := e.credit > 0 && e.in == space && !told
		counts := e.mayCount(space)
		if !(counts && (pings || e.tells(space))) && e.seen[space].Deadline() > e.clock {
			continue
		}
		d := newDraft(e.packet(space), left)
		e.fill(d, counts, pings)
		if len(d.frames) == 0 {
			continue
		}
		if !e.number(d) {
			e.finish()
			return nil
		}
		left -= d.size()
		l = append(l, d)
	}
	return l
}

// mayCount tells whether a packet of a space may be one that is counted.
func (e *end) mayCount(space int) bool {
	if space == api.Initial && e.allowance() < leastInitial {
		return false
	}
	return e.credit > 0 || e.loss.May(space, e.whole()) && (e.pacer == nil || e.pacer.When(e.clock, e.whole()) <= e.clock)
}

// fill puts in what waits: counts: whether the packet may be counted; pings: whether it is to be, with nothing to tell.
func (e *end) fill(d *draft, counts, pings bool) {
	space := d.packet.Space
	e.fillAck(d)
	if !counts {
		return
	}
	for f, is := e.hand.Next(space, d.room); is; f, is = e.hand.Next(space, d.room) {
		d.add(f)
	}
	if space == api.App {
		e.fillApp(d)
	}
	if pings {
		d.add(api.Frame{Kind: api.KPing})
	}
}

// fillAck puts in what has come and was not told. It always fits: see leastLeft.
func (e *end) fillAck(d *draft) {
	exp := handExp
	if d.packet.Space == api.App {
		exp = e.config.AckExp
	}
	s := e.seen[d.packet.Space]
	if !s.Any() {
		return
	}
	if f, is := s.Ack(e.clock, exp); is {
		d.add(f)
	}
}

// fillApp puts in what goes in App alone.
func (e *end) fillApp(d *draft) {
	if e.done && d.addIf(api.Frame{Kind: api.KDone}) {
		e.done = false
	}
	if e.response != nil && d.addIf(api.Frame{Kind: api.KResponse, Data: e.response}) {
		e.response = nil
	}
	for f, is := e.streams.Next(d.room); is; f, is = e.streams.Next(d.room) {
		d.add(f)
	}
}

// number gives a packet the next number of its space; false: there is none any more.
func (e *end) number(d *draft) bool {
	n, err := e.loss.Next(d.packet.Space)
	d.packet.Number = n
	return err == api.OK
}

// dispatch gives the datagram of packets, and tells loss of them; true: one of them is counted.
func (e *end) dispatch(l []*draft) ([]byte, bool) {
	least := 0
	var packets []api.Packet
	for _, d := range l {
		if d.packet.Space == api.Initial && d.eliciting {
			least = leastInitial
		}
		packets = append(packets, d.finished())
	}
	// No error can come: each packet took no more than what was left for it.
	b, sizes, _ := pack.Build(int(e.allowance()), least, packets...)
	counted := int64(0) // bytes
	for i, d := range l {
		s := d.sent(sizes[i])
		s.Probe = s.Counted && e.credit > 0
		if s.Counted {
			counted += s.Size
		}
		o, _ := e.loss.Sent(e.clock, d.packet.Space, s)
		e.tellAgain(d.packet.Space, o.Lost)
	}
	e.spend(counted)
	return b, counted > 0
}

// spend takes what was sent off what may be: of probes the one, of others the pacer's bytes.
func (e *end) spend(counted int64) {
	switch {
	case counted == 0:
	case e.credit > 0:
		e.credit--
	case e.pacer != nil:
		e.pacer.Spend(e.clock, counted)
	}
}

// tellLimited tells loss whether more waits to be sent, as far as that shows.
func (e *end) tellLimited(counted, told bool) {
	switch {
	case counted:
		e.loss.Limited(false)
	case !told && e.loss.May(api.App, e.whole()):
		e.loss.Limited(true)
	}
}

// follow does what is to be done behind a datagram that went.
func (e *end) follow(l []*draft) {
	elicits := false
	for _, d := range l {
		elicits = elicits || d.eliciting
		if d.packet.Space == api.Handshake && e.role == api.Client {
			e.drop(api.Initial)
		}
	}
	if elicits && !e.asked {
		e.asked = true
		e.setIdle()
	}
}
