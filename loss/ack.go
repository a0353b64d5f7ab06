package loss

import "portage/api"

// Ack takes an acknowledgement in (P14.4).
func (l *Loss) Ack(now int64, space int, f api.Frame) (api.Outcome, api.Errno) {
	if !isSpace(space) || f.Kind != api.KAck {
		return api.Outcome{}, api.ErrArg
	}
	acked, err := l.spaces[space].Ack(f.Runs...)
	if err != api.OK {
		return api.Outcome{}, err
	}
	l.tick(now)
	if len(acked) == 0 {
		return api.Outcome{}, api.OK
	}
	window := l.ctl.View()
	// What is told of the greatest number alone is news: an older frame may come behind a newer one.
	if acked[len(acked)-1].Number == greatest(f.Runs) {
		l.sample(space, f.Delay, acked)
		l.heed(space, f, acked[len(acked)-1].Time)
	}
	lost := l.lose(space)
	l.land(space, acked)
	l.sure = l.sure || space == api.Handshake
	if l.sure {
		l.count = 0
	}
	l.tellWindow(window)
	l.setTimer()
	return api.Outcome{Acked: acked, Lost: lost}, api.OK
}

// greatest is the greatest number of runs in any order.
func greatest(r []api.Run) int64 {
	n := int64(-1)
	for _, x := range r {
		n = max(n, x.Hi)
	}
	return n
}

// sample learns the round trip of the last one, if one of them wanted an acknowledgement.
func (l *Loss) sample(space int, delay int64, acked []api.Sent) {
	for _, s := range acked {
		if s.Eliciting {
			l.est.Sample(l.clock, l.clock-acked[len(acked)-1].Time, l.delay(space, delay))
			v := l.est.View()
			l.tell(api.Event{Kind: api.EvSample, Space: space, A: v.Latest, B: v.Smooth, C: v.Var})
			return
		}
	}
}

// delay is for how long the other end put off an acknowledgement, by what it told.
func (l *Loss) delay(space int, told int64) int64 {
	if space == api.Initial {
		return 0
	}
	exp := firstExp
	if space == api.App {
		exp = l.exponent
	}
	d := int64(api.MaxTime)
	if told <= d>>exp {
		d = max(told, 0) << exp
	}
	if l.confirmed {
		d = min(d, l.putOff)
	}
	return d
}

// heed looks at counts of marks; sent: when the packet went out that they came for.
func (l *Loss) heed(space int, f api.Frame, sent int64) {
	s := &l.spaces[space]
	if !f.Marks || !s.heeded {
		return
	}
	for i, n := range f.Counts {
		if n < s.marks[i] {
			s.heeded = false
			return
		}
	}
	rose := f.Counts[2] > s.marks[2]
	s.marks = f.Counts
	if rose {
		l.ctl.Event(l.clock, sent)
	}
}

// land counts what was acknowledged.
func (l *Loss) land(space int, acked []api.Sent) {
	for _, s := range acked {
		l.ctl.Acked(l.clock, s.Time, s.Size, l.limited)
		l.tell(api.Event{Kind: api.EvAcked, Space: space, Number: s.Number})
	}
}
