package streams

import (
	"slices"

	"portage/credit"
	"portage/recv"
	"portage/send"
)

const (
	urgencies    = 8
	firstUrgency = 3
)

// A stream is one that is open.
type stream struct {
	id        int64
	urgency   int
	sending   *sending   // nil: it has none
	receiving *receiving // nil: it has none
}

// sending is a sending part. What was used of its Out is what was sent of it.
type sending struct {
	part  *send.Send
	out   *credit.Out
	reset notice
}

// receiving is a receiving part. What was taken of its In is its High.
type receiving struct {
	part  *recv.Recv
	in    *credit.In
	stop  notice
	reset bool  // by the other end
	code  int64 // of that reset
	done  bool
}

// How far a notice has come.
const (
	never = iota
	first // it waits, and was not told yet
	underWay
	again // it waits, and was told already
	acked
)

// A notice is a word with a code, of a reset or a stop: it is told once, and again where that was lost.
type notice struct {
	state int
	code  int64
}

func (n *notice) ask(code int64) { *n = notice{state: first, code: code} }

func (n *notice) asked() bool { return n.state != never }

func (n *notice) waits() bool { return n.state == first || n.state == again }

func (n *notice) told() { n.state = underWay }

func (n *notice) lost() {
	if n.state == underWay {
		n.state = again
	}
}

func (n *notice) ack() {
	if n.state == underWay || n.state == again {
		n.state = acked
	}
}

// add opens a stream. None of its parts can be refused: the capacity, limits and windows may be.
func (s *Streams) add(id int64) {
	st := &stream{id: id, urgency: firstUrgency}
	if s.sends(id) {
		p := &sending{}
		p.part, _ = send.New(s.capacity)
		p.out, _ = credit.NewOut(s.limitOf(id))
		st.sending = p
	}
	if s.receives(id) {
		p := &receiving{}
		p.part, _ = recv.New(s.windowOf(id))
		p.in, _ = credit.NewIn(s.windowOf(id))
		st.receiving = p
	}
	s.open[id] = st
}

// settle lets a stream go, if all parts that it has are done.
func (s *Streams) settle(st *stream) {
	if st.receiving != nil && !st.receiving.done || st.sending != nil && !st.sending.done() {
		return
	}
	delete(s.open, st.id)
	if !s.isOurs(st.id) {
		s.theirs[kindOf(st.id)].limit++
		s.unseen = slices.DeleteFunc(s.unseen, func(id int64) bool { return id == st.id })
	}
}

// done tells whether nothing more is to be done to send it.
func (p *sending) done() bool {
	return p.reset.state == acked || p.part.View().Done
}

// breakOff resets it with a code; false: it was reset already, or is Done.
func (p *sending) breakOff(code int64) bool {
	if p.reset.asked() || p.part.View().Done {
		return false
	}
	p.part.Stop()
	p.reset.ask(code)
	return true
}

// unsent tells whether it has bytes that were never sent, and will be.
func (p *sending) unsent() bool {
	v := p.part.View()
	return !v.Stopped && v.Sent < v.Written
}

// endless tells whether its final size isn't known (a reset tells it, too).
func (p *receiving) endless() bool { return p.part.View().Final < 0 }

// held tells how many bytes a stream holds.
func (st *stream) held() int64 {
	n := int64(0)
	if p := st.sending; p != nil {
		if v := p.part.View(); !v.Stopped {
			n += v.Written - v.Base
		}
	}
	if p := st.receiving; p != nil {
		n += p.part.View().Held
	}
	return n
}

// consume says that so many bytes of a receiving part are done with.
func (s *Streams) consume(p *receiving, n int64) {
	// Neither can be refused: no more is consumed than was taken, of both.
	p.in.Consume(n)
	s.in.Consume(n)
}
