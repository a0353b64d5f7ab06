package conn

import (
	"slices"

	"portage/api"
	"portage/hand"
	"portage/loss"
	"portage/pace"
	"portage/seen"
	"portage/streams"
)

// periods is so many of them an end that closes or drains stays, and one that hears nothing at least.
const periods = 3

// An end is all that there is of a Conn behind its mutex.
type end struct {
	config api.Config
	role   int
	clock  int64
	state  int

	loss    *loss.Loss
	streams *streams.Streams
	hand    *hand.Hand
	seen    [api.Spaces]*seen.Seen // nil: the space was dropped
	pacer   *pace.Pacer            // nil: there is none
	rate    rate                   // the pacer's, as it was set last

	there  []byte // the other end's id
	known  bool   // is it? It may be one without a byte
	called []byte // of a server: by which id it was called first

	got, sent int64 // bytes of datagrams
	validated bool  // may the other end be sent to without bound?
	confirmed bool
	blocked   bool // as loss was told last

	idleAt, endAt int64
	asked         bool // did something that elicits go since a packet was processed?

	credit, in int    // how many probes may go, and of which space they are
	done       bool   // is DONE due?
	response   []byte // that is due; nil: none is

	parting  api.Frame // the close, its own or the other end's
	told     bool      // it is the other end's
	closeDue bool
	closed   int // datagrams that came as it was closing
}

// rate is what a pacer's rate hangs on.
type rate struct {
	window, smooth int64
}

// newEnd makes one of a configuration that may be, so that no layer can refuse it.
func newEnd(c api.Config, role int, now int64) *end {
	c.ID, c.To = slices.Clone(c.ID), slices.Clone(c.To)
	e := &end{config: c, role: role, validated: role == api.Client}
	e.loss, _ = loss.New(c, role)
	e.streams, _ = streams.New(role, c.Params, c.Capacity)
	e.hand, _ = hand.New(role, c.Params)
	for space := range e.seen {
		e.seen[space], _ = seen.New(space, c.AckDelay)
	}
	if c.Pace {
		e.pacer, _ = pace.New(c.Burst)
	}
	e.tick(now)
	e.endAt = api.Never
	e.setIdle()
	e.setRate()
	return e
}

// tick moves the clock, which never goes back.
func (e *end) tick(now int64) {
	e.clock = max(e.clock, min(now, api.MaxTime))
}

func (e *end) isLive() bool { return e.state == api.StateLive }

// whole is how many bytes a whole datagram has.
func (e *end) whole() int64 { return int64(e.config.MTU) }

// setIdle sets the idle time anew.
func (e *end) setIdle() {
	span := e.config.Idle
	if peer, known := e.hand.Peer(); known && peer.Idle != 0 && (span == 0 || peer.Idle < span) {
		span = peer.Idle
	}
	e.idleAt = api.Never
	if span != 0 {
		e.idleAt = e.clock + max(span, periods*e.loss.Period())
	}
}

// setRate sets the pacer's rate, if it isn't what it was: a Set of the same rate isn't without effect.
func (e *end) setRate() {
	if e.pacer == nil {
		return
	}
	v := e.loss.View()
	r := rate{window: v.Window.Size, smooth: e.config.InitialRTT}
	if v.RTT.Has {
		r.smooth = v.RTT.Smooth
	}
	r.smooth = min(r.smooth, e.config.MaxPTO)
	if r != e.rate {
		e.rate = r
		e.pacer.Set(e.clock, r.window, r.smooth)
	}
}

// setBlocked tells loss whether too little may be sent, if that has turned.
func (e *end) setBlocked() {
	if is := e.allowance() < leastInitial; is != e.blocked {
		e.blocked = is
		e.loss.Blocked(e.clock, is)
	}
}

// drop lets a space go (C7).
func (e *end) drop(space int) {
	e.loss.Drop(e.clock, space)
	e.hand.Drop(space)
	e.seen[space] = nil
	if e.in == space {
		e.credit = 0
	}
}

// confirm says that both ends know that both have all they need (C7).
func (e *end) confirm() {
	e.confirmed = true
	e.loss.Confirm(e.clock)
	e.drop(api.Handshake)
}

// leave closes as the application says (C2).
func (e *end) leave(code int64, reason []byte) api.Errno {
	switch {
	case !e.isLive():
		return api.ErrConnOver
	case !within(code, 0, api.MaxNumber):
		return api.ErrArg
	case len(reason) > api.MaxReason:
		return api.ErrLong
	}
	e.close(api.Frame{Kind: api.KClose, Own: true, Code: code, Data: slices.Clone(reason)})
	return api.OK
}

// close closes with a close frame of its own (C8).
func (e *end) close(f api.Frame) {
	e.part(api.StateClosing, f)
	e.closeDue = true
}

// drain heeds a close frame of the other end (C8).
func (e *end) drain(f api.Frame) {
	e.part(api.StateDraining, f)
	e.told = true
}

func (e *end) part(state int, f api.Frame) {
	e.state, e.parting = state, f
	e.idleAt, e.endAt = api.Never, e.clock+periods*e.loss.Period()
}

// finish ends it, without a word (C8).
func (e *end) finish() {
	e.state = api.StateOver
	e.idleAt, e.endAt = api.Never, api.Never
}
