package conn

import "portage/api"

// timeout lets timers expire (C6).
func (e *end) timeout() {
	switch e.state {
	case api.StateLive:
		if e.idleAt <= e.clock {
			e.finish()
			return
		}
		e.expire()
		e.setRate()
	case api.StateClosing, api.StateDraining:
		if e.endAt <= e.clock {
			e.finish()
		}
	}
}

// expire does what loss says of its timer, if that is due.
func (e *end) expire() {
	x := e.loss.Timeout(e.clock)
	e.tellAgain(x.Space, x.Lost)
	for space, l := range x.Again {
		e.tellAgain(space, l)
	}
	if x.Kind == api.ExpiryProbe {
		e.credit, e.in = x.Probes, x.Space
	}
}

// deadline tells when there is something to be done (C6). An acknowledgement that is due goes with the next datagram, and needs no timer.
func (e *end) deadline() int64 {
	if !e.isLive() {
		return e.endAt
	}
	at := min(e.idleAt, e.loss.Deadline())
	for space := range e.seen {
		if !e.hand.Open(space) {
			continue
		}
		at = e.sooner(at, e.seen[space].Deadline())
		if e.pacer != nil && e.tells(space) && e.loss.May(space, e.whole()) {
			at = e.sooner(at, e.pacer.When(e.clock, e.whole()))
		}
	}
	return at
}

// sooner is the earlier one, but at, if the other one has passed.
func (e *end) sooner(at, other int64) int64 {
	if other > e.clock {
		return min(at, other)
	}
	return at
}
