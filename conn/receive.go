package conn

import (
	"bytes"

	"portage/api"
	"portage/frame"
	"portage/packet"
)

// A fault is why a packet may not be. It goes up to receive as a panic: nothing between has anything to say to it.
type fault struct {
	code api.Code
	kind int // of the frame that it lies in; 0: in none
}

// must gives the packet up, if there is a code that says why.
func must(code api.Code, kind int) {
	if code != api.CodeNone {
		panic(fault{code, kind})
	}
}

// receive takes a datagram (C3).
func (e *end) receive(b []byte, mark int) {
	if e.state != api.StateOver {
		e.got += int64(len(b))
	}
	switch e.state {
	case api.StateClosing:
		e.knock()
	case api.StateLive:
		e.process(b, mark)
	}
	if e.isLive() {
		e.setRate()
		e.setBlocked()
	}
}

// knock counts a datagram that came to an end that closes: the other end may not know it yet, but isn't told for each of them.
func (e *end) knock() {
	e.closed++
	if e.closed&(e.closed-1) == 0 {
		e.closeDue = true
	}
}

// process takes the packets of a datagram, as long as the end is live.
func (e *end) process(b []byte, mark int) {
	defer func() {
		x := recover()
		if x == nil {
			return
		}
		f, told := x.(fault)
		if !told {
			f = fault{code: api.CodeInternal}
		}
		e.close(api.Frame{Kind: api.KClose, Code: int64(f.code), Size: int64(f.kind)})
	}()
	l, _ := packet.Split(b, len(e.config.ID), e.largest())
	for _, p := range l {
		if e.isLive() && e.takes(p) {
			e.meet(p)
			e.take(p, mark)
		}
	}
}

// largest tells of each space the greatest number that was taken.
func (e *end) largest() [api.Spaces]int64 {
	l := [api.Spaces]int64{-1, -1, -1}
	for space, s := range e.seen {
		if s != nil {
			l[space] = s.Largest()
		}
	}
	return l
}

// takes tells whether a packet isn't passed over (C3, 1).
func (e *end) takes(p api.Packet) bool {
	if !e.isCalled(p) || isLong(p) && e.known && !bytes.Equal(p.Src, e.there) {
		return false
	}
	return e.hand.Open(p.Space) && e.seen[p.Space].Fresh(p.Number)
}

// isCalled tells whether a packet is for this end. A client that doesn't know the server's id yet calls it by another one.
func (e *end) isCalled(p api.Packet) bool {
	if e.role == api.Server && p.Space == api.Initial && (!e.known || bytes.Equal(p.Dst, e.called)) {
		return true
	}
	return bytes.Equal(p.Dst, e.config.ID)
}

func isLong(p api.Packet) bool { return p.Space != api.App }

// meet learns the other end's id from the first long packet (C3, 2).
func (e *end) meet(p api.Packet) {
	if isLong(p) && !e.known {
		e.there, e.known, e.called = p.Src, true, p.Dst
	}
}

// take takes a packet that isn't passed over (C3, 3 to 6).
func (e *end) take(p api.Packet, mark int) {
	l, _, err := frame.Parse(p.Payload)
	switch err {
	case api.OK:
	case api.ErrFrameEmpty:
		must(api.CodeProtocol, 0)
	default:
		must(api.CodeFrame, 0)
	}
	eliciting := false
	for _, f := range l {
		if !e.isLive() {
			return
		}
		e.heed(p.Space, f)
		eliciting = eliciting || frame.Eliciting(f)
	}
	if !e.isLive() {
		return
	}
	if e.hand.Open(p.Space) {
		e.seen[p.Space].Take(e.clock, p.Number, eliciting, mark)
	}
	if e.role == api.Server && p.Space == api.Handshake {
		e.validated = true
		e.drop(api.Initial)
	}
	e.asked = false
	e.setIdle()
}
