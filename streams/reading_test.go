package streams

import (
	"slices"

	"portage/api"
	"portage/frame"
)

// What became of an offset, or of the fin.
const (
	isNever = iota // it was never sent
	isUnderWay
	isLost
	isAcked
)

// A book is a second reading of the chapter's words (and of those of layers 15 to 17 that it needs): all streams that were ever opened, offset by offset, and all that was ever told.
type book struct {
	role, capacity int
	own, their     api.Params // their: as Peer told them, each the greatest
	streams        []*page    // in the order of opening
	out            api.OutView
	in             api.InView
	inAgain        bool
	most           [2]int64 // their limits of how many
	refused        [2]int64 // at which of them Open was refused last
	told           []api.Frame
	again          []api.Frame // of what was told to be blocked, or how many may be: what is to be told again
}

// A page is a stream.
type page struct {
	id              int64
	urgency         int
	ended, accepted bool
	sends, receives bool

	bytes      []byte
	state      []int
	fin        bool
	finState   int
	out        api.OutView
	reset      bool
	resetCode  int64
	resetTold  bool
	resetAgain bool
	resetAcked bool
	got        map[int64]byte
	limit      int64
	read, high int64
	final      int64
	endRead    bool
	in         api.InView
	inAgain    bool
	stopped    bool
	stopCode   int64
	stopTold   bool
	stopAgain  bool
	broken     bool // by a reset that came
	brokenCode int64
	brokenRead bool
}

func newBook(role int, own api.Params, capacity int) *book {
	return &book{role: role, capacity: capacity, own: own, out: api.OutView{Told: -1},
		in: api.InView{Limit: own.Data, Window: own.Data}, refused: [2]int64{-1, -1}}
}

func pick(uni bool) int {
	if uni {
		return 1
	}
	return 0
}

func (b *book) mine(id int64) bool { return id%2 == int64(b.role) }

// of lists the pages of a kind, ours or theirs, ended ones too.
func (b *book) of(mine, uni bool) []*page {
	var l []*page
	for _, p := range b.streams {
		if b.mine(p.id) == mine && (p.id%4 >= 2) == uni {
			l = append(l, p)
		}
	}
	return l
}

func (b *book) page(id int64) *page {
	for _, p := range b.streams {
		if p.id == id && !p.ended {
			return p
		}
	}
	return nil
}

// rising lists the open streams by their ids.
func (b *book) rising() []*page {
	var l []*page
	for _, p := range b.streams {
		if !p.ended {
			l = append(l, p)
		}
	}
	slices.SortFunc(l, func(x, y *page) int { return int(x.id - y.id) })
	return l
}

// ourLimit is how many of theirs may be.
func (b *book) ourLimit(uni bool) int64 {
	n := b.own.Bidi
	if uni {
		n = b.own.Uni
	}
	for _, p := range b.of(false, uni) {
		if p.ended {
			n++
		}
	}
	return n
}

func (b *book) begin(id int64) {
	p := &page{id: id, urgency: 3, final: -1, got: map[int64]byte{}}
	var window, limit int64
	switch uni, mine := id%4 >= 2, b.mine(id); {
	case uni && mine:
		p.sends, limit = true, b.their.StreamUni
	case uni:
		p.receives, window = true, b.own.StreamUni
	case mine:
		p.sends, p.receives, limit, window = true, true, b.their.StreamHis, b.own.StreamOwn
	default:
		p.sends, p.receives, limit, window = true, true, b.their.StreamOwn, b.own.StreamHis
	}
	if p.sends {
		p.out = api.OutView{Limit: limit, Told: -1}
	}
	if p.receives {
		p.in, p.limit = api.InView{Limit: window, Window: window}, window
	}
	b.streams = append(b.streams, p)
}

func (b *book) peer(q api.Params) {
	raise := func(limit *int64, told, most int64) { *limit = max(*limit, min(told, most)) }
	raise(&b.out.Limit, q.Data, api.MaxNumber)
	raise(&b.their.StreamOwn, q.StreamOwn, api.MaxNumber)
	raise(&b.their.StreamHis, q.StreamHis, api.MaxNumber)
	raise(&b.their.StreamUni, q.StreamUni, api.MaxNumber)
	raise(&b.most[0], q.Bidi, 1<<60)
	raise(&b.most[1], q.Uni, 1<<60)
	for _, p := range b.streams {
		switch uni, mine := p.id%4 >= 2, b.mine(p.id); {
		case uni && mine:
			raise(&p.out.Limit, b.their.StreamUni, api.MaxNumber)
		case mine:
			raise(&p.out.Limit, b.their.StreamHis, api.MaxNumber)
		case !uni:
			raise(&p.out.Limit, b.their.StreamOwn, api.MaxNumber)
		}
	}
}

func (b *book) open(uni bool) (int64, api.Errno) {
	l := b.of(true, uni)
	if int64(len(l)) >= b.most[pick(uni)] {
		b.refused[pick(uni)] = b.most[pick(uni)]
		return 0, api.ErrStreamsLimit
	}
	if len(slices.DeleteFunc(slices.Clone(l), func(p *page) bool { return p.ended })) >= 32 {
		return 0, api.ErrStreamsLimit
	}
	id := 4*int64(len(l)) + int64(b.role) + 2*int64(pick(uni))
	b.begin(id)
	return id, api.OK
}

func (b *book) accept() (int64, bool) {
	for _, p := range b.streams {
		if !b.mine(p.id) && !p.ended && !p.accepted {
			p.accepted = true
			return p.id, true
		}
	}
	return 0, false
}

func (b *book) sending(id int64) *page {
	if p := b.page(id); p != nil && p.sends {
		return p
	}
	return nil
}

func (b *book) receiving(id int64) *page {
	if p := b.page(id); p != nil && p.receives {
		return p
	}
	return nil
}

func (p *page) sent() int64 {
	n := len(p.state)
	for n > 0 && p.state[n-1] == isNever {
		n--
	}
	return int64(n)
}

func (p *page) base() int64 {
	n := slices.IndexFunc(p.state, func(state int) bool { return state != isAcked })
	if n < 0 {
		n = len(p.state)
	}
	return int64(n)
}

// whole tells whether it is Done by layer 15.
func (p *page) whole() bool {
	return p.fin && p.base() == int64(len(p.bytes)) && p.finState == isAcked
}

// look lets a stream end, if it does.
func (p *page) look() {
	sends := !p.sends || p.whole() || p.reset && p.resetAcked
	receives := !p.receives || p.endRead || p.brokenRead
	p.ended = sends && receives
}

func (b *book) write(id int64, text []byte) api.Errno {
	p := b.sending(id)
	switch {
	case p == nil:
		return api.ErrStreamsID
	case p.fin || p.reset:
		return api.ErrSendDone
	case int64(len(p.bytes)+len(text))-p.base() > int64(b.capacity):
		return api.ErrFull
	}
	p.bytes = append(p.bytes, text...)
	p.state = append(p.state, make([]int, len(text))...)
	return api.OK
}

func (b *book) end(id int64) api.Errno {
	p := b.sending(id)
	switch {
	case p == nil:
		return api.ErrStreamsID
	case p.fin || p.reset:
		return api.ErrSendDone
	}
	p.fin = true
	return api.OK
}

func (p *page) breakOff(code int64) {
	p.reset, p.resetCode = true, code
	for x, state := range p.state {
		if state == isLost {
			p.state[x] = isUnderWay
		}
	}
	if p.finState == isLost {
		p.finState = isUnderWay
	}
}

func (b *book) breakOff(id, code int64) api.Errno {
	p := b.sending(id)
	switch {
	case p == nil:
		return api.ErrStreamsID
	case code < 0 || code > api.MaxNumber:
		return api.ErrArg
	case p.reset || p.whole():
		return api.ErrOver
	}
	p.breakOff(code)
	return api.OK
}

func (b *book) readOf(id int64, most int) ([]byte, bool, api.Errno) {
	p := b.receiving(id)
	if p == nil {
		return nil, false, api.ErrStreamsID
	}
	if p.broken {
		p.brokenRead = true
		p.look()
		return nil, false, api.ErrOver
	}
	var text []byte
	for len(text) < most {
		c, has := p.got[p.read]
		if !has {
			break
		}
		text = append(text, c)
		p.read++
		p.in.Consumed++
		b.in.Consumed++
	}
	if p.read == p.final {
		p.endRead = true
		p.look()
	}
	return text, p.read == p.final, api.OK
}

func (b *book) stop(id, code int64) api.Errno {
	p := b.receiving(id)
	switch {
	case p == nil:
		return api.ErrStreamsID
	case code < 0 || code > api.MaxNumber:
		return api.ErrArg
	case p.stopped || p.broken || p.final >= 0:
		return api.ErrOver
	}
	p.stopped, p.stopCode = true, code
	return api.OK
}

func (b *book) rank(id int64, urgency int) api.Errno {
	p := b.sending(id)
	switch {
	case p == nil:
		return api.ErrStreamsID
	case urgency < 0 || urgency > 7:
		return api.ErrArg
	}
	p.urgency = urgency
	return api.OK
}

func (b *book) take(f api.Frame) api.Code {
	if _, err := frame.Size(f); err != api.OK {
		return api.CodeFrame
	}
	switch f.Kind {
	case api.KMaxData:
		b.out.Limit = max(b.out.Limit, f.Limit)
		return 0
	case api.KMaxStreams:
		b.most[pick(f.Uni)] = max(b.most[pick(f.Uni)], f.Limit)
		return 0
	case api.KDataBlocked, api.KStreamsBlocked:
		return 0
	case api.KReset, api.KStream, api.KStreamDataBlocked, api.KStop, api.KMaxStreamData:
	default:
		return api.CodeProtocol
	}
	toSend := f.Kind == api.KStop || f.Kind == api.KMaxStreamData
	uni, mine := f.Stream%4 >= 2, b.mine(f.Stream)
	if uni && mine != toSend {
		return api.CodeState
	}
	if mine && f.Stream/4 >= int64(len(b.of(true, uni))) {
		return api.CodeState
	}
	if !mine && f.Stream/4 >= b.ourLimit(uni) {
		return api.CodeStreams
	}
	for !mine && int64(len(b.of(false, uni))) <= f.Stream/4 {
		b.begin(4*int64(len(b.of(false, uni))) + f.Stream%4)
	}
	p := b.page(f.Stream)
	if p == nil {
		return 0
	}
	switch f.Kind {
	case api.KMaxStreamData:
		p.out.Limit = max(p.out.Limit, f.Limit)
	case api.KStop:
		if !p.reset && !p.whole() {
			p.breakOff(f.Code)
		}
	case api.KStream:
		return b.takePiece(p, f)
	case api.KReset:
		return b.takeReset(p, f)
	}
	return 0
}

func (b *book) takePiece(p *page, f api.Frame) api.Code {
	end := f.Offset + int64(len(f.Data))
	rise := max(end-p.high, 0)
	switch {
	case rise > b.in.Limit-b.in.Taken, end > p.limit:
		return api.CodeFlow
	case p.final >= 0 && (end > p.final || f.Fin && end != p.final), f.Fin && end < p.high:
		return api.CodeFinal
	}
	p.high += rise
	p.in.Taken += rise
	b.in.Taken += rise
	if f.Fin {
		p.final = end
	}
	for i, c := range f.Data {
		if _, has := p.got[f.Offset+int64(i)]; !has && !p.broken {
			p.got[f.Offset+int64(i)] = c
		}
	}
	return 0
}

func (b *book) takeReset(p *page, f api.Frame) api.Code {
	rise := max(f.Size-p.high, 0)
	switch {
	case rise > b.in.Limit-b.in.Taken, f.Size > p.limit:
		return api.CodeFlow
	case p.final >= 0 && f.Size != p.final, f.Size < p.high:
		return api.CodeFinal
	}
	p.high, p.final = f.Size, f.Size
	p.in.Taken += rise
	b.in.Taken += rise
	if p.endRead || p.broken {
		return 0
	}
	p.broken, p.brokenCode = true, f.Code
	for x := range p.got {
		if x >= p.read {
			delete(p.got, x)
		}
	}
	b.in.Consumed += p.in.Taken - p.in.Consumed
	p.in.Consumed = p.in.Taken
	return 0
}
