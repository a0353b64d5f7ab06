package conn

import (
	"portage/api"
	"portage/frame"
)

// heed does what a frame that has come says (C4).
func (e *end) heed(space int, f api.Frame) {
	if !frame.Allowed(space, f) {
		must(api.CodeProtocol, f.Kind)
	}
	switch f.Kind {
	case api.KPadding, api.KPing, api.KResponse:
	case api.KChallenge:
		e.response = f.Data
	case api.KAck:
		e.heedAck(space, f)
	case api.KCrypto:
		e.heedCrypto(space, f)
	case api.KClose:
		e.drain(f)
	case api.KDone:
		if e.role == api.Server {
			must(api.CodeProtocol, f.Kind)
		}
		e.confirm()
	default:
		must(e.streams.Take(f), f.Kind)
	}
}

func (e *end) heedAck(space int, f api.Frame) {
	o, err := e.loss.Ack(e.clock, space, f)
	if err != api.OK {
		must(api.CodeProtocol, f.Kind)
	}
	for _, s := range o.Acked {
		for _, k := range s.Frames {
			e.acked(space, k)
		}
		if s.Told != -1 {
			e.seen[space].Forget(s.Told)
		}
	}
	e.tellAgain(space, o.Lost)
}

func (e *end) heedCrypto(space int, f api.Frame) {
	_, knew := e.hand.Peer()
	opened, completed := e.hand.Open(api.Handshake), e.hand.Complete()
	must(e.hand.Take(space, f), f.Kind)
	if peer, knows := e.hand.Peer(); knows && !knew {
		e.streams.Peer(peer)
		e.loss.Peer(peer)
	}
	if e.hand.Open(api.Handshake) && !opened {
		e.loss.Keys(e.clock)
	}
	if e.hand.Complete() && !completed && e.role == api.Server {
		e.confirm()
		e.done = true
	}
}

// acked says that a frame was acknowledged.
func (e *end) acked(space int, f api.Frame) {
	switch f.Kind {
	case api.KCrypto:
		e.hand.Acked(space, f)
	case api.KDone:
		e.done = false
	default:
		e.streams.Acked(f)
	}
}

// tellAgain has the frames of packets told again.
func (e *end) tellAgain(space int, l []api.Sent) {
	for _, s := range l {
		for _, f := range s.Frames {
			switch f.Kind {
			case api.KCrypto:
				e.hand.Lost(space, f)
			case api.KDone:
				e.done = true
			default:
				e.streams.Lost(f)
			}
		}
	}
}
