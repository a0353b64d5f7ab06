package streams

import (
	"slices"

	"portage/api"
	"portage/frame"
)

// wants is layer 17's Wants of an In.
func wants(v api.InView, again bool) bool {
	next := v.Consumed + v.Window
	return again || next > v.Limit && next-v.Limit >= v.Window-v.Window/2
}

// stuck is layer 17's Wants of an Out.
func stuck(v api.OutView) bool { return v.Limit == v.Used && v.Told != v.Limit }

// lastTold tells the limit that a frame of a kind told last; -1: none did.
func (b *book) lastTold(kind int, uni bool) int64 {
	for _, f := range slices.Backward(b.told) {
		if f.Kind == kind && f.Uni == uni {
			return f.Limit
		}
	}
	return -1
}

// toTell tells whether such a frame is to be told again.
func (b *book) toTell(kind int, uni bool) bool {
	return slices.ContainsFunc(b.again, func(f api.Frame) bool { return f.Kind == kind && f.Uni == uni })
}

func (p *page) unsent() bool {
	return p.sends && !p.reset && p.sent() < int64(len(p.bytes))
}

// waiting lists all that waits in the numbers 1 to 8 of P18.11, in their order.
func (b *book) waiting() []api.Frame {
	var l []api.Frame
	open := b.rising()
	for _, p := range open {
		if p.reset && !p.resetAcked && (!p.resetTold || p.resetAgain) {
			l = append(l, reset(p.id, p.resetCode, p.sent()))
		}
	}
	for _, p := range open {
		if p.stopped && (!p.stopTold || p.stopAgain) && !p.broken && p.final < 0 {
			l = append(l, stop(p.id, p.stopCode))
		}
	}
	if wants(b.in, b.inAgain) {
		l = append(l, maxData(b.in.Consumed+b.in.Window))
	}
	for _, p := range open {
		if p.receives && !p.broken && p.final < 0 && wants(p.in, p.inAgain) {
			l = append(l, maxStreamData(p.id, p.in.Consumed+p.in.Window))
		}
	}
	for _, uni := range []bool{false, true} {
		first := []int64{b.own.Bidi, b.own.Uni}[pick(uni)]
		if limit := b.ourLimit(uni); limit > max(b.lastTold(api.KMaxStreams, uni), first) || b.toTell(api.KMaxStreams, uni) {
			l = append(l, maxStreams(uni, limit))
		}
	}
	if stuck(b.out) && slices.ContainsFunc(open, (*page).unsent) {
		l = append(l, dataBlocked(b.out.Limit))
	}
	for _, p := range open {
		if p.unsent() && stuck(p.out) {
			l = append(l, streamDataBlocked(p.id, p.out.Limit))
		}
	}
	for _, uni := range []bool{false, true} {
		limit := b.most[pick(uni)]
		if b.refused[pick(uni)] == limit && (b.lastTold(api.KStreamsBlocked, uni) != limit || b.toTell(api.KStreamsBlocked, uni)) {
			l = append(l, streamsBlocked(uni, limit))
		}
	}
	return l
}

// mark says that one of these was told.
func (b *book) mark(f api.Frame) {
	b.told = append(b.told, f)
	b.again = slices.DeleteFunc(b.again, func(g api.Frame) bool { return g.Kind == f.Kind && g.Uni == f.Uni })
	p := b.page(f.Stream)
	switch f.Kind {
	case api.KReset:
		p.resetTold, p.resetAgain = true, false
	case api.KStop:
		p.stopTold, p.stopAgain = true, false
	case api.KMaxData:
		b.in.Limit, b.inAgain = f.Limit, false
	case api.KMaxStreamData:
		p.in.Limit, p.limit, p.inAgain = f.Limit, f.Limit, false
	case api.KDataBlocked:
		b.out.Told = f.Limit
	case api.KStreamDataBlocked:
		p.out.Told = f.Limit
	}
}

// next is layer 15's Next of a stream, of a piece of most bytes at most, without a change; false: it doesn't wait.
func (b *book) piece(p *page, most int) (api.Frame, bool) {
	if !p.sends || p.reset {
		return api.Frame{}, false
	}
	limit := p.sent() + min(p.out.Limit-p.out.Used, b.out.Limit-b.out.Used)
	from, to := p.sent(), min(int64(len(p.bytes)), limit)
	if low := slices.Index(p.state, isLost); low >= 0 {
		from, to = int64(low), int64(low)
		for to < p.sent() && p.state[to] == isLost {
			to++
		}
	}
	if from >= to {
		if !p.fin || p.sent() < int64(len(p.bytes)) || p.finState == isUnderWay || p.finState == isAcked {
			return api.Frame{}, false
		}
		to = from
	}
	to = min(to, from+int64(most))
	return api.Frame{Kind: api.KStream, Stream: p.id, Offset: from, Data: p.bytes[from:to], Fin: p.fin && to == int64(len(p.bytes))}, true
}

// turn tells whose turn it is; nil: nobody's.
func (b *book) turn() *page {
	l := slices.DeleteFunc(b.rising(), func(p *page) bool {
		_, is := b.piece(p, 1)
		return !is
	})
	if len(l) == 0 {
		return nil
	}
	least := 7
	for _, p := range l {
		least = min(least, p.urgency)
	}
	l = slices.DeleteFunc(l, func(p *page) bool { return p.urgency != least })
	last := int64(-1)
	for _, f := range b.told {
		// Of a piece that was told Limit is kept as the urgency that it had.
		if f.Kind == api.KStream && f.Limit == int64(least) {
			last = f.Stream
		}
	}
	for _, p := range l {
		if p.id > last {
			return p
		}
	}
	return l[0]
}

func (b *book) next(room int) (api.Frame, bool) {
	if l := b.waiting(); len(l) > 0 {
		if n, _ := frame.Size(l[0]); n > room {
			return api.Frame{}, false
		}
		b.mark(l[0])
		return l[0], true
	}
	p := b.turn()
	if p == nil {
		return api.Frame{}, false
	}
	most := b.capacity
	f, _ := b.piece(p, most)
	for n, _ := frame.Size(f); n > room; n, _ = frame.Size(f) {
		if most == 1 {
			return api.Frame{}, false
		}
		most--
		f, _ = b.piece(p, most)
	}
	b.told = append(b.told, api.Frame{Kind: api.KStream, Stream: p.id, Limit: int64(p.urgency)})
	for x := range f.Data {
		at := f.Offset + int64(x)
		if p.state[at] == isNever {
			p.out.Used++
			b.out.Used++
		}
		p.state[at] = isUnderWay
	}
	if f.Fin && p.finState != isAcked {
		p.finState = isUnderWay
	}
	return f, true
}

// each goes through the offsets of a piece that were sent.
func (p *page) each(f api.Frame, do func(at int64)) {
	for at := range p.sent() {
		// The numbers that the tests hand in don't leave 64 bits.
		if at >= f.Offset && at < f.Offset+f.Size {
			do(at)
		}
	}
}

func (b *book) acked(f api.Frame) {
	p := b.sending(f.Stream)
	if p == nil {
		return
	}
	switch {
	case f.Kind == api.KStream && !p.reset:
		p.each(f, func(at int64) { p.state[at] = isAcked })
		if f.Fin && p.finState != isNever {
			p.finState = isAcked
		}
	case f.Kind == api.KReset && p.resetTold:
		p.resetAcked = true
	}
	p.look()
}

func (b *book) lost(f api.Frame) {
	switch p := b.page(f.Stream); f.Kind {
	case api.KMaxData:
		b.inAgain = b.inAgain || f.Limit == b.in.Limit && f.Limit != b.in.Window
	case api.KDataBlocked:
		if b.out.Told == f.Limit {
			b.out.Told = -1
		}
	case api.KMaxStreams, api.KStreamsBlocked:
		if f.Limit >= 0 && f.Limit == b.lastTold(f.Kind, f.Uni) {
			b.again = append(b.again, f)
		}
	default:
		if p != nil {
			p.lost(f)
		}
	}
}

func (p *page) lost(f api.Frame) {
	switch f.Kind {
	case api.KStream:
		if p.reset || !p.sends {
			return
		}
		p.each(f, func(at int64) {
			if p.state[at] != isAcked {
				p.state[at] = isLost
			}
		})
		if f.Fin && p.finState == isUnderWay {
			p.finState = isLost
		}
	case api.KReset:
		p.resetAgain = p.resetAgain || p.resetTold
	case api.KStop:
		p.stopAgain = p.stopAgain || p.stopTold
	case api.KMaxStreamData:
		p.inAgain = p.inAgain || p.receives && f.Limit == p.in.Limit && f.Limit != p.in.Window
	case api.KStreamDataBlocked:
		if p.sends && p.out.Told == f.Limit {
			p.out.Told = -1
		}
	}
}

// runsOf tells the numbers below an end of which something holds, as runs.
func runsOf(end int64, holds func(at int64) bool) []api.Run {
	var l []api.Run
	for at := range end {
		if !holds(at) {
			continue
		}
		if n := len(l); n > 0 && l[n-1].Hi == at-1 {
			l[n-1].Hi = at
		} else {
			l = append(l, api.Run{Lo: at, Hi: at})
		}
	}
	return l
}

func (b *book) view(id int64) (api.StreamView, api.Errno) {
	p := b.page(id)
	if p == nil {
		return api.StreamView{}, api.ErrStreamsID
	}
	v := api.StreamView{ID: id, Urgency: p.urgency, Out: p.out, In: p.in, ResetSent: p.reset, Code: p.brokenCode}
	if p.sends {
		v.Send = api.SendView{Written: int64(len(p.bytes)), Sent: p.sent(), Base: p.base(), Fin: p.fin, FinAcked: p.finState == isAcked, Stopped: p.reset, Done: p.whole()}
		v.Send.FinSent = p.finState == isAcked || p.finState == isUnderWay
		v.Send.Acked = runsOf(p.sent(), func(at int64) bool { return p.state[at] == isAcked })
		v.Send.Lost = runsOf(p.sent(), func(at int64) bool { return p.state[at] == isLost })
	}
	if p.receives {
		v.Recv = api.RecvView{Limit: p.limit, Read: p.read, High: p.high, Final: p.final, Held: int64(len(p.got)) - p.read, Ended: p.endRead, Reset: p.broken}
		v.Recv.Runs = runsOf(p.high, func(at int64) bool {
			_, has := p.got[at]
			return has
		})
	}
	return v, api.OK
}

func (b *book) held() int64 {
	n := int64(0)
	for _, p := range b.rising() {
		if !p.reset {
			n += int64(len(p.bytes)) - p.base()
		}
		n += int64(len(p.got)) - p.read
	}
	return n
}
