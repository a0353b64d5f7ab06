package loss

import (
	"portage/api"
	"portage/rtt"
)

const (
	probes = 2 // packets that may go for an expiry
	oldest = 2 // packets of a space that are told again for it
)

// timer is what is waited for.
type timer struct {
	kind, space int
	deadline    int64
}

// noTimer is that nothing is.
func noTimer() timer {
	return timer{kind: api.ExpiryNone, deadline: api.Never}
}

// sooner is the one with the earlier deadline; of two alike the first.
func (t timer) sooner(other timer) timer {
	if other.deadline < t.deadline {
		return other
	}
	return t
}

// Deadline tells when the timer is due (P14.7).
func (l *Loss) Deadline() int64 {
	return l.timer.deadline
}

// Timeout tells what comes of the timer, if it is due (P14.7).
func (l *Loss) Timeout(now int64) api.Expiry {
	l.tick(now)
	due := l.timer
	if due.deadline > l.clock {
		return api.Expiry{}
	}
	if due.kind == api.ExpiryLoss {
		window := l.ctl.View()
		lost := l.lose(due.space)
		l.tellWindow(window)
		l.setTimer()
		return api.Expiry{Kind: due.kind, Space: due.space, Lost: lost}
	}
	l.count++
	l.probed = l.clock
	l.tell(api.Event{Kind: api.EvProbe, Space: due.space, A: int64(l.count)})
	l.setTimer()
	x := api.Expiry{Kind: due.kind, Space: due.space, Probes: probes}
	for i := range l.spaces {
		x.Again[i] = l.spaces[i].Oldest(oldest)
	}
	return x
}

// setTimer reckons the timer anew (P14.6).
func (l *Loss) setTimer() {
	t := l.reckon()
	if t == l.timer {
		return
	}
	l.timer = t
	l.tell(api.Event{Kind: api.EvTimer, Space: t.space, A: t.deadline, B: int64(t.kind)})
}

// reckon tells what the timer is to be: the first that applies.
func (l *Loss) reckon() timer {
	if t := l.lossTimer(); t.kind != api.ExpiryNone || l.blocked {
		return t
	}
	if t := l.probeTimer(); t.kind != api.ExpiryNone || l.sure {
		return t
	}
	// The server may wait for a word of the client's, ahead of which it may not send.
	in := api.Initial
	if l.keys {
		in = api.Handshake
	}
	return timer{api.ExpiryProbe, in, l.clock + l.span(in)}
}

// lossTimer is the timer of packets that are lost by time, if there are such.
func (l *Loss) lossTimer() timer {
	t := noTimer()
	for i := range l.spaces {
		if at := l.spaces[i].loss; at >= 0 {
			t = t.sooner(timer{api.ExpiryLoss, i, at})
		}
	}
	return t
}

// probeTimer is the timer of packets that want an acknowledgement, if there are such.
func (l *Loss) probeTimer() timer {
	t := noTimer()
	for i := range l.spaces {
		v := l.spaces[i].View()
		if v.Waiting == 0 || i == api.App && !l.confirmed {
			continue
		}
		t = t.sooner(timer{api.ExpiryProbe, i, max(l.probed, v.Last) + l.span(i)})
	}
	return t
}

// span is for how long a probe timer of a space runs.
func (l *Loss) span(space int) int64 {
	extra := int64(0)
	if space == api.App {
		extra = l.putOff
	}
	return rtt.PTO(l.est.Base(), extra, l.count, l.most)
}
