package conn

import (
	"slices"

	"portage/api"
	"portage/frame"
	"portage/hand"
	"portage/loss"
	"portage/pace"
	"portage/pack"
	"portage/packet"
	"portage/seen"
	"portage/streams"
)

// A reading is a second reading of the chapter's words, sentence by sentence, over the layers that they name.
type reading struct {
	c     api.Config
	role  int
	clock int64
	state int

	loss    *loss.Loss
	streams *streams.Streams
	hand    *hand.Hand
	seen    [3]*seen.Seen
	pacer   *pace.Pacer

	got, sent           int64
	validated           bool
	confirmed           bool
	there               *[]byte
	firstDst            []byte
	idleAt, endAt       int64
	eliciting           bool // one was sent since the last packet that was processed
	credit, creditSpace int
	doneDue             bool
	responses           [][]byte // those that are due, the newest one alone
	closeDue            bool
	handed              int
	code, kind          int64
	own, told           bool
	reason              []byte
	blockedTold         bool

	// what the plays went through
	pings, probes, padded, spent, forgotten, limits int
}

func newReading(c api.Config, role int, now int64) *reading {
	r := &reading{c: c, role: role, idleAt: api.Never, endAt: api.Never}
	r.loss, _ = loss.New(c, role)
	r.streams, _ = streams.New(role, c.Params, c.Capacity)
	r.hand, _ = hand.New(role, c.Params)
	for i := range r.seen {
		r.seen[i], _ = seen.New(i, c.Params.AckDelay)
	}
	r.pacer, _ = pace.New(c.Burst)
	r.goOn(now)
	r.setIdle()
	w, s := r.rate()
	r.pacer.Set(r.clock, w, s)
	return r
}

func (r *reading) goOn(now int64) {
	if now > api.MaxTime {
		now = api.MaxTime
	}
	if now > r.clock {
		r.clock = now
	}
}

func (r *reading) rate() (int64, int64) {
	v := r.loss.View()
	smooth := v.RTT.Smooth
	if !v.RTT.Has {
		smooth = r.c.InitialRTT
	}
	return v.Window.Size, min(r.c.MaxPTO, smooth)
}

func (r *reading) setIdle() {
	var known []int64
	if r.c.Params.Idle != 0 {
		known = append(known, r.c.Params.Idle)
	}
	if p, is := r.hand.Peer(); is && p.Idle != 0 {
		known = append(known, p.Idle)
	}
	if len(known) == 0 {
		r.idleAt = api.Never
		return
	}
	r.idleAt = r.clock + max(slices.Min(known), 3*r.loss.Period())
}

func (r *reading) open(space int) bool { return r.hand.Open(space) }

func (r *reading) drop(space int) {
	r.loss.Drop(r.clock, space)
	r.hand.Drop(space)
	r.seen[space] = nil
	if r.creditSpace == space {
		r.credit = 0
	}
}

func (r *reading) confirm() {
	r.confirmed = true
	r.loss.Confirm(r.clock)
	r.drop(api.Handshake)
}

func (r *reading) leaveLive(state int) {
	r.state = state
	r.endAt = r.clock + 3*r.loss.Period()
	r.idleAt = api.Never
	r.closeDue = state == api.StateClosing
}

func (r *reading) over() {
	r.state = api.StateOver
	r.idleAt, r.endAt = api.Never, api.Never
}

func (r *reading) shut(code api.Code, kind int) {
	r.leaveLive(api.StateClosing)
	r.code, r.kind = int64(code), int64(kind)
}

func (r *reading) close(now, code int64, reason []byte) api.Errno {
	r.goOn(now)
	if r.state != api.StateLive {
		return api.ErrConnOver
	}
	if code < 0 || code > api.MaxNumber {
		return api.ErrArg
	}
	if len(reason) > api.MaxReason {
		return api.ErrLong
	}
	r.leaveLive(api.StateClosing)
	r.own, r.code, r.reason = true, code, reason
	return api.OK
}

func (r *reading) receive(now int64, b []byte, mark int) {
	r.goOn(now)
	if r.state != api.StateOver {
		r.got += int64(len(b))
	}
	if r.state == api.StateClosing {
		r.handed++
		for n := 1; n <= r.handed; n = 2 * n {
			if n == r.handed {
				r.closeDue = true
			}
		}
	}
	if r.state != api.StateLive {
		return
	}
	w, s := r.rate()
	largest := [3]int64{-1, -1, -1}
	for i, x := range r.seen {
		if x != nil {
			largest[i] = x.Largest()
		}
	}
	l, _ := packet.Split(b, len(r.c.ID), largest)
	for _, p := range l {
		if r.state == api.StateLive && !r.passesOver(p) {
			r.packet(p, mark)
		}
	}
	if r.state != api.StateLive {
		return
	}
	r.turned(w, s)
	r.tellBlocked()
}

// turned sets the pacer, if the rate is another one than it was.
func (r *reading) turned(window, smooth int64) {
	if w, s := r.rate(); w != window || s != smooth {
		r.pacer.Set(r.clock, w, s)
	}
}

func (r *reading) tellBlocked() {
	is := r.role == api.Server && !r.validated && 3*r.got-r.sent < 1200
	if is != r.blockedTold {
		r.loss.Blocked(r.clock, is)
	}
	r.blockedTold = is
}

func (r *reading) passesOver(p api.Packet) bool {
	mine := string(p.Dst) == string(r.c.ID)
	if r.role == api.Server && p.Space == api.Initial {
		if r.there == nil || string(p.Dst) == string(r.firstDst) {
			mine = true
		}
	}
	if !mine {
		return true
	}
	if p.Space != api.App && r.there != nil && string(p.Src) != string(*r.there) {
		return true
	}
	if !r.open(p.Space) {
		return true
	}
	return !r.seen[p.Space].Fresh(p.Number)
}

func (r *reading) packet(p api.Packet, mark int) {
	if p.Space != api.App && r.there == nil {
		src := slices.Clone(p.Src)
		r.there, r.firstDst = &src, slices.Clone(p.Dst)
	}
	l, _, err := frame.Parse(p.Payload)
	if err == api.ErrFrameEmpty {
		r.shut(api.CodeProtocol, 0)
		return
	}
	if err != api.OK {
		r.shut(api.CodeFrame, 0)
		return
	}
	eliciting := false
	for _, f := range l {
		if code := r.frame(p.Space, f); code != api.CodeNone {
			r.shut(code, f.Kind)
		}
		if r.state != api.StateLive {
			return
		}
		if f.Kind != api.KPadding && f.Kind != api.KAck && f.Kind != api.KClose {
			eliciting = true
		}
	}
	if r.open(p.Space) {
		r.seen[p.Space].Take(r.clock, p.Number, eliciting, mark)
	}
	if r.role == api.Server && p.Space == api.Handshake {
		r.validated = true
		r.drop(api.Initial)
	}
	r.setIdle()
	r.eliciting = false
}

func (r *reading) frame(space int, f api.Frame) api.Code {
	if !frame.Allowed(space, f) {
		return api.CodeProtocol
	}
	switch f.Kind {
	case api.KPadding, api.KPing, api.KResponse:
		return api.CodeNone
	case api.KChallenge:
		r.responses = [][]byte{f.Data}
		return api.CodeNone
	case api.KAck:
		o, err := r.loss.Ack(r.clock, space, f)
		if err != api.OK {
			return api.CodeProtocol
		}
		for _, s := range o.Acked {
			for _, g := range s.Frames {
				if g.Kind == api.KDone {
					r.doneDue = false
				}
				r.hand.Acked(space, g)
				r.streams.Acked(g)
			}
			if s.Told != -1 {
				r.seen[space].Forget(s.Told)
			}
		}
		r.again(space, o.Lost)
		return api.CodeNone
	case api.KCrypto:
		_, knew := r.hand.Peer()
		was := [2]bool{r.open(api.Handshake), r.hand.Complete()}
		if code := r.hand.Take(space, f); code != api.CodeNone {
			return code
		}
		if p, knows := r.hand.Peer(); knows != knew {
			r.streams.Peer(p)
			r.loss.Peer(p)
		}
		if r.open(api.Handshake) && !was[0] {
			r.loss.Keys(r.clock)
		}
		if r.role == api.Server && r.hand.Complete() && !was[1] {
			r.confirm()
			r.doneDue = true
		}
		return api.CodeNone
	case api.KClose:
		r.leaveLive(api.StateDraining)
		r.told, r.own, r.code, r.kind, r.reason = true, f.Own, f.Code, f.Size, f.Data
		return api.CodeNone
	case api.KDone:
		if r.role == api.Server {
			return api.CodeProtocol
		}
		r.confirm()
		return api.CodeNone
	}
	return r.streams.Take(f)
}

func (r *reading) again(space int, l []api.Sent) {
	for _, s := range l {
		for _, f := range s.Frames {
			if f.Kind == api.KDone {
				r.doneDue = true
			}
			// Each of the two passes over what isn't its own.
			r.hand.Lost(space, f)
			r.streams.Lost(f)
		}
	}
}

func (r *reading) tells(space int) bool {
	if !r.open(space) {
		return false
	}
	if space == api.App && (r.doneDue || len(r.responses) > 0 || r.streams.Waits()) {
		return true
	}
	return r.hand.Waits(space)
}

func (r *reading) least() int64 {
	may := int64(r.c.MTU)
	if r.role == api.Server && !r.validated {
		may = min(may, 3*r.got-r.sent)
	}
	return may
}

func (r *reading) packetOf(space int) api.Packet {
	p := api.Packet{Space: space, Dst: r.c.To, Width: 4}
	if r.there != nil {
		p.Dst = *r.there
	}
	if space != api.App {
		p.Src = r.c.ID
	}
	p.Number, _ = r.loss.Next(space)
	return p
}

func (r *reading) send(now int64) ([]byte, int, bool) {
	r.goOn(now)
	var b []byte
	switch r.state {
	case api.StateClosing:
		b = r.sendClose()
	case api.StateLive:
		b = r.sendLive()
		if b != nil {
			r.tellBlocked()
		}
	}
	if b == nil {
		return nil, 0, false
	}
	if r.c.Marks {
		return b, 1, true
	}
	return b, 0, true
}

func (r *reading) sendClose() []byte {
	if !r.closeDue || r.role == api.Server && r.there == nil {
		return nil
	}
	var l []api.Packet
	for space := range 3 {
		if _, err := r.loss.Next(space); !r.open(space) || err != api.OK {
			continue
		}
		f := api.Frame{Kind: api.KClose, Own: r.own, Code: r.code, Size: r.kind, Data: r.reason}
		if r.own && space != api.App {
			f = api.Frame{Kind: api.KClose, Code: 12}
		}
		p := r.packetOf(space)
		p.Payload, _ = frame.Encode(f)
		l = append(l, p)
	}
	if l == nil {
		return nil
	}
	b, _, err := pack.Build(int(r.least()), 0, l...)
	if err != api.OK {
		return nil
	}
	for _, p := range l {
		r.loss.Sent(r.clock, p.Space, api.Sent{Told: -1})
	}
	r.closeDue = false
	r.sent += int64(len(b))
	return b
}

// A sheet is a packet of a datagram, with its frames.
type sheet struct {
	p         api.Packet
	l         []api.Frame
	eliciting bool
}

func (r *reading) sendLive() []byte {
	least := r.least()
	someTold := r.tells(0) || r.tells(1) || r.tells(2)
	var l []sheet
	used := int64(0)
	for space := range 3 {
		if !r.open(space) {
			continue
		}
		if least-used < 640 {
			break
		}
		s, made := r.sheet(space, least, least-used, someTold)
		if !made {
			continue
		}
		if _, err := r.loss.Next(space); err != api.OK {
			r.over()
			return nil
		}
		b, _ := packet.Encode(s.p)
		used += int64(len(b))
		l = append(l, s)
	}
	counted := false
	var b []byte
	if len(l) > 0 {
		b, counted = r.go_(l, least)
	}
	if counted {
		r.loss.Limited(false)
	} else if !someTold && r.loss.May(api.App, int64(r.c.MTU)) {
		r.loss.Limited(true)
		r.limits++
	}
	first := false
	for _, s := range l {
		if s.p.Space == api.Handshake && r.role == api.Client {
			r.drop(api.Initial)
		}
		if s.eliciting && !r.eliciting {
			first = true
		}
	}
	if first {
		r.eliciting = true
		r.setIdle()
	}
	return b
}

// sheet is what goes of a space; false: nothing.
func (r *reading) sheet(space int, least, left int64, someTold bool) (sheet, bool) {
	whole := int64(r.c.MTU)
	mayCount := r.credit > 0 || r.loss.May(space, whole) && (!r.c.Pace || r.pacer.When(r.clock, whole) == r.clock)
	if space == api.Initial && least < 1200 {
		mayCount = false
	}
	pings := r.credit > 0 && r.creditSpace == space && !someTold
	if !(mayCount && (pings || r.tells(space))) && r.seen[space].Deadline() > r.clock {
		return sheet{}, false
	}
	s := sheet{p: r.packetOf(space)}
	ahead, _ := packet.Overhead(s.p)
	room := int(left) - ahead
	put := func(f api.Frame) {
		n, _ := frame.Size(f)
		room -= n
		s.l = append(s.l, f)
	}
	if r.seen[space].Any() {
		exp := 3
		if space == api.App {
			exp = r.c.Params.AckExp
		}
		f, _ := r.seen[space].Ack(r.clock, exp)
		put(f)
	}
	for mayCount {
		f, is := r.hand.Next(space, room)
		if !is {
			break
		}
		put(f)
	}
	if mayCount && space == api.App {
		if r.doneDue && room >= 1 {
			r.doneDue = false
			put(api.Frame{Kind: api.KDone})
		}
		if len(r.responses) > 0 && room >= 9 {
			put(api.Frame{Kind: api.KResponse, Data: r.responses[0]})
			r.responses = nil
		}
		for {
			f, is := r.streams.Next(room)
			if !is {
				break
			}
			put(f)
		}
	}
	if pings && mayCount {
		put(api.Frame{Kind: api.KPing})
		r.pings++
	}
	for _, f := range s.l {
		s.eliciting = s.eliciting || f.Kind != api.KAck
	}
	s.p.Payload, _ = frame.Join(s.l...)
	return s, len(s.l) > 0
}

// go_ sends the packets; true: one of them is counted.
func (r *reading) go_(l []sheet, least int64) ([]byte, bool) {
	var packets []api.Packet
	floor := 0
	for _, s := range l {
		packets = append(packets, s.p)
		if s.p.Space == api.Initial && s.eliciting {
			floor = 1200
		}
	}
	b, sizes, err := pack.Build(int(least), floor, packets...)
	if err != api.OK {
		panic("what is put together doesn't fit")
	}
	bytes := int64(0)
	for i, s := range l {
		plain, _ := packet.Encode(s.p)
		counted := s.eliciting || sizes[i] != len(plain)
		if !s.eliciting && counted {
			r.padded++
		}
		told := api.Sent{Size: int64(sizes[i]), Eliciting: s.eliciting, Counted: counted, Probe: counted && r.credit > 0, Told: -1}
		for _, f := range s.l {
			if f.Kind == api.KAck {
				told.Told = f.Runs[0].Hi
			}
			if k, is := frame.Keep(f); is {
				told.Frames = append(told.Frames, k)
			}
		}
		if counted {
			bytes += told.Size
		}
		o, _ := r.loss.Sent(r.clock, s.p.Space, told)
		r.forgotten += len(o.Lost)
		r.again(s.p.Space, o.Lost)
	}
	if bytes > 0 && r.credit > 0 {
		r.credit--
		r.probes++
	} else if bytes > 0 && r.c.Pace {
		r.pacer.Spend(r.clock, bytes)
		r.spent++
	}
	r.sent += int64(len(b))
	return b, bytes > 0
}

func (r *reading) timeout(now int64) {
	r.goOn(now)
	switch r.state {
	case api.StateLive:
		if r.idleAt <= r.clock {
			r.over()
			return
		}
		if r.loss.Deadline() > r.clock {
			return
		}
		w, s := r.rate()
		x := r.loss.Timeout(r.clock)
		r.again(x.Space, x.Lost)
		for space := range 3 {
			r.again(space, x.Again[space])
		}
		if x.Kind == api.ExpiryProbe {
			r.credit, r.creditSpace = 2, x.Space
		}
		r.turned(w, s)
	case api.StateClosing, api.StateDraining:
		if r.clock >= r.endAt {
			r.over()
		}
	}
}

func (r *reading) deadline() int64 {
	switch r.state {
	case api.StateOver:
		return api.Never
	case api.StateClosing, api.StateDraining:
		return r.endAt
	}
	l := []int64{r.idleAt, r.loss.Deadline()}
	for space := range 3 {
		if !r.open(space) {
			continue
		}
		if at := r.seen[space].Deadline(); at > r.clock {
			l = append(l, at)
		}
		if r.tells(space) && r.loss.May(space, int64(r.c.MTU)) && r.c.Pace {
			if at := r.pacer.When(r.clock, int64(r.c.MTU)); at > r.clock {
				l = append(l, at)
			}
		}
	}
	return slices.Min(l)
}

func (r *reading) view() api.ConnView {
	v := api.ConnView{State: r.state, Role: r.role, Complete: r.hand.Complete(), Confirmed: r.confirmed, Validated: r.validated || r.role == api.Client,
		Credit: r.credit, Got: r.got, Sent: r.sent, Code: r.code, Own: r.own, Told: r.told, Kind: r.kind, Reason: r.reason,
		IdleAt: r.idleAt, EndAt: r.endAt, Recovery: r.loss.View(), Held: r.streams.Held() + r.hand.Held()}
	if r.credit > 0 {
		v.In = r.creditSpace
	}
	if r.there != nil {
		v.There = *r.there
	}
	for space := range 3 {
		v.Open[space] = r.open(space)
		v.Held += 64 * int64(v.Recovery.Spaces[space].Kept)
		if r.seen[space] != nil {
			v.Held += 16 * int64(len(r.seen[space].Runs()))
		}
	}
	return v
}

func (r *reading) openStream(uni bool) (int64, api.Errno) {
	if r.state != api.StateLive {
		return 0, api.ErrConnOver
	}
	return r.streams.Open(uni)
}

func (r *reading) accept() (int64, api.Errno) {
	id, is := r.streams.Accept()
	if !is {
		return 0, api.ErrNone
	}
	return id, api.OK
}

// use asks a call of a live end.
func (r *reading) use(call func(*streams.Streams) api.Errno) api.Errno {
	if r.state != api.StateLive {
		return api.ErrConnOver
	}
	return call(r.streams)
}
