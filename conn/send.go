package conn

import (
	"portage/api"
	"portage/frame"
	"portage/pack"
)

const (
	leastInitial = 1200 // bytes of a datagram with an Initial packet that elicits
	leastLeft    = 640  // with fewer bytes left no packet is begun: whatever an acknowledgement tells, it fits then
	width        = 4    // of each packet's number: so a datagram that comes ever so late isn't taken for another one
	handExp      = 3    // delays are told in units of two to this in the handshake's spaces
	times        = 3    // a server sends as many bytes as it was handed so many times, till it is validated
)

// send gives the next datagram, and its mark (C5).
func (e *end) send() ([]byte, int, bool) {
	var b []byte
	switch e.state {
	case api.StateLive:
		b = e.sendLive()
	case api.StateClosing:
		b = e.sendClose()
	}
	if len(b) == 0 {
		return nil, 0, false
	}
	e.sent += int64(len(b))
	if e.isLive() {
		e.setBlocked()
	}
	if e.config.Marks {
		return b, api.Capable, true
	}
	return b, api.Unmarked, true
}

// allowance is how many bytes the next datagram may have.
func (e *end) allowance() int64 {
	if e.validated {
		return e.whole()
	}
	return min(e.whole(), times*e.got-e.sent)
}

// packet is one of a space, without number and payload.
func (e *end) packet(space int) api.Packet {
	p := api.Packet{Space: space, Dst: e.there, Width: width}
	if !e.known {
		p.Dst = e.config.To
	}
	if isLong(p) {
		p.Src = e.config.ID
	}
	return p
}

// sendClose gives a datagram that says no more than that the end closes (C5).
func (e *end) sendClose() []byte {
	if !e.closeDue || e.role == api.Server && !e.known {
		return nil
	}
	l := e.closes()
	b, _, err := pack.Build(int(e.allowance()), 0, l...)
	if len(l) == 0 || err != api.OK {
		return nil
	}
	for _, p := range l {
		e.loss.Sent(e.clock, p.Space, api.Sent{Told: -1})
	}
	e.closeDue = false
	return b
}

// closes is a packet of each open space in which a number is left.
func (e *end) closes() []api.Packet {
	var l []api.Packet
	for space := range api.Spaces {
		number, err := e.loss.Next(space)
		if !e.hand.Open(space) || err != api.OK {
			continue
		}
		p := e.packet(space)
		p.Number = number
		// No error can come: a code or a reason that can't be told isn't kept.
		p.Payload, _ = frame.Encode(e.closeIn(space))
		l = append(l, p)
	}
	return l
}

// closeIn is the close frame as it goes in a space: in the handshake nothing of the application's is told.
func (e *end) closeIn(space int) api.Frame {
	if space != api.App && e.parting.Own {
		return api.Frame{Kind: api.KClose, Code: int64(api.CodeApp)}
	}
	return e.parting
}
