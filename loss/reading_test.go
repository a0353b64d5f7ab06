package loss

import (
	"cmp"
	"math/big"
	"slices"

	"portage/api"
	"portage/cubic"
	"portage/reno"
	"portage/rtt"
)

// What became of a packet.
const (
	isBare = iota // it was never kept
	isKept
	isAcked
	isLost
	isForgotten
	isDropped
)

// A row is all packets that were ever sent in a space, and what became of each.
type row struct {
	first   int64
	sent    []api.Sent
	fate    []int
	acked   []bool // is the number in ACKED?
	largest int64
	open    bool
	loss    int64
	marks   [3]int64
	heeded  bool
}

// those are the packets that are kept and for which ok holds.
func (w *row) those(ok func(s api.Sent) bool) []api.Sent {
	var l []api.Sent
	for i, s := range w.sent {
		if w.fate[i] == isKept && ok(s) {
			l = append(l, s)
		}
	}
	return l
}

func anyOne(api.Sent) bool    { return true }
func asked(s api.Sent) bool   { return s.Eliciting }
func (w *row) next() int64    { return w.first + int64(len(w.sent)) }
func (w *row) at(n int64) int { return int(n - w.first) }

// become gives packets a fate.
func (w *row) become(fate int, l []api.Sent) []api.Sent {
	for _, s := range l {
		w.fate[w.at(s.Number)] = fate
	}
	return l
}

// told tells whether a number from lo to hi is in ACKED.
func (w *row) told(lo, hi int64) bool {
	for n := max(lo, w.first); n <= min(hi, w.next()-1); n++ {
		if w.acked[w.at(n)] {
			return true
		}
	}
	return false
}

// shed lets the lowest runs of ACKED go, down to MaxSent.
func (w *row) shed() {
	var begins []int
	for i, in := range w.acked {
		if in && (i == 0 || !w.acked[i-1]) {
			begins = append(begins, i)
		}
	}
	for ; len(begins) > 256; begins = begins[1:] {
		for i := begins[0]; w.acked[i]; i++ {
			w.acked[i] = false
		}
	}
}

// A reading is a second reading of the chapter's words, over all that was ever sent. It leans on the layers below for the estimate and the window alone.
type reading struct {
	c        api.Config
	rows     [api.Spaces]*row
	est      *rtt.Est
	ctl      controller
	now      int64
	count    int
	probed   int64
	putOff   int64
	exp      int
	flags    map[string]bool // KEYS, SURE, CONFIRMED, BLOCKED, LIMITED
	kind, in int
	deadline int64
	events   []api.Event
	which    int // the case of P14.6 by which the timer was set last
	alike    int // how often that was one of two alike
	byTime   int // packets that were lost by time alone
	byNumber int // by their number alone
	cuts     int // of the window, by marks
}

func newReading(c api.Config, role int) *reading {
	m := &reading{c: c, probed: -1, exp: 3, deadline: api.Never, flags: map[string]bool{"SURE": role == 1, "LIMITED": true}}
	m.est, _ = rtt.New(c.InitialRTT, c.Granularity)
	if m.ctl, _ = reno.New(c.MTU); c.Cubic {
		m.ctl, _ = cubic.New(c.MTU)
	}
	for i := range m.rows {
		m.rows[i] = &row{first: c.First[i], largest: -1, open: true, loss: -1, heeded: true}
	}
	return m
}

func (m *reading) tell(e api.Event) {
	e.Time = m.now
	m.events = append(m.events, e)
}

func (m *reading) tick(now int64) {
	if now > 1<<50 {
		now = 1 << 50
	}
	if now > m.now {
		m.now = now
	}
}

// call is one that sets the timer behind what it does.
func (m *reading) call(do func()) {
	was := m.ctl.View()
	do()
	if is := m.ctl.View(); is.Size != was.Size || is.Threshold != was.Threshold {
		m.tell(api.Event{Kind: api.EvWindow, A: is.Size, B: is.Threshold})
	}
	m.set()
}

func (m *reading) next(space int) (int64, api.Errno) {
	switch {
	case space != 0 && space != 1 && space != 2:
		return 0, api.ErrArg
	case !m.rows[space].open:
		return 0, api.ErrOver
	case m.rows[space].next() == 1<<62:
		return 0, api.ErrLedgerLast
	}
	return m.rows[space].next(), api.OK
}

func (m *reading) send(now int64, space int, s api.Sent) (o api.Outcome, err api.Errno) {
	if s.Number, err = m.next(space); err != api.OK {
		return o, err
	}
	if s.Size < 0 || s.Size > 65535 || (s.Eliciting && !s.Counted) {
		return o, api.ErrArg
	}
	m.tick(now)
	s.Time = m.now
	w := m.rows[space]
	w.sent, w.acked = append(w.sent, s), append(w.acked, false)
	if !s.Counted {
		w.fate = append(w.fate, isBare)
		return o, api.OK
	}
	w.fate = append(w.fate, isKept)
	m.call(func() {
		m.tell(api.Event{Kind: api.EvSent, Space: space, Number: s.Number, Size: s.Size})
		m.ctl.Sent(s.Size)
		if l := w.those(anyOne); len(l) == 257 {
			o.Lost = w.become(isForgotten, l[:1])
			m.tell(api.Event{Kind: api.EvForgotten, Space: space, Number: l[0].Number})
			m.ctl.Dropped(l[0].Size)
		}
	})
	return o, api.OK
}

func (m *reading) wrongAck(space int, f api.Frame) api.Errno {
	if space < 0 || space > 2 || f.Kind != 2 {
		return api.ErrArg
	}
	w := m.rows[space]
	if !w.open {
		return api.ErrOver
	}
	for _, r := range f.Runs {
		if r.Lo > r.Hi || r.Lo < 0 {
			return api.ErrArg
		}
		if r.Lo < w.first || r.Hi >= w.next() {
			return api.ErrLedgerNever
		}
	}
	return api.OK
}

func (m *reading) ack(now int64, space int, f api.Frame) (o api.Outcome, err api.Errno) {
	if err = m.wrongAck(space, f); err != api.OK {
		return o, err
	}
	m.tick(now)
	w := m.rows[space]
	greatest := int64(-1)
	for _, r := range f.Runs {
		for n := r.Lo; n <= r.Hi; n++ {
			w.acked[w.at(n)] = true
		}
		w.shed()
		greatest = max(greatest, r.Hi)
	}
	w.largest = max(w.largest, greatest)
	o.Acked = w.become(isAcked, w.those(func(s api.Sent) bool {
		return slices.ContainsFunc(f.Runs, func(r api.Run) bool { return r.Lo <= s.Number && s.Number <= r.Hi })
	}))
	if len(o.Acked) == 0 {
		return o, api.OK
	}
	m.call(func() {
		last := o.Acked[len(o.Acked)-1]
		if last.Number == greatest && slices.ContainsFunc(o.Acked, asked) {
			m.est.Sample(m.now, m.now-last.Time, m.delay(space, f.Delay))
			v := m.est.View()
			m.tell(api.Event{Kind: api.EvSample, Space: space, A: v.Latest, B: v.Smooth, C: v.Var})
		}
		if last.Number == greatest && f.Marks && w.heeded {
			m.mark(w, f.Counts, last.Time)
		}
		o.Lost = m.lose(space)
		for _, s := range o.Acked {
			m.ctl.Acked(m.now, s.Time, s.Size, m.flags["LIMITED"])
			m.tell(api.Event{Kind: api.EvAcked, Space: space, Number: s.Number})
		}
		if space == 1 {
			m.flags["SURE"] = true
		}
		if m.flags["SURE"] {
			m.count = 0
		}
	})
	return o, api.OK
}

func (m *reading) delay(space int, told int64) int64 {
	if space == 0 || told < 0 {
		return 0
	}
	x := 3
	if space == 2 {
		x = m.exp
	}
	least := func(a *big.Int, b int64) *big.Int {
		if a.Cmp(big.NewInt(b)) > 0 {
			return big.NewInt(b)
		}
		return a
	}
	d := least(new(big.Int).Lsh(big.NewInt(told), uint(x)), 1<<50)
	if m.flags["CONFIRMED"] {
		d = least(d, m.putOff)
	}
	return d.Int64()
}

func (m *reading) mark(w *row, counts [3]int64, sent int64) {
	was := w.marks
	if counts[0] < was[0] || counts[1] < was[1] || counts[2] < was[2] {
		w.heeded = false
		return
	}
	w.marks = counts
	if counts[2] > was[2] && m.ctl.Event(m.now, sent) {
		m.cuts++
	}
}

// lose is P14.5.
func (m *reading) lose(space int) []api.Sent {
	w := m.rows[space]
	delay := min(m.c.MaxPTO, m.est.LossDelay())
	old := func(s api.Sent) bool { return s.Time+delay <= m.now }
	passed := func(s api.Sent) bool { return s.Number+3 <= w.largest }
	lost := w.become(isLost, w.those(func(s api.Sent) bool { return s.Number <= w.largest && (old(s) || passed(s)) }))
	w.loss = -1
	for _, s := range w.those(func(s api.Sent) bool { return s.Number <= w.largest }) {
		if w.loss == -1 || s.Time+delay < w.loss {
			w.loss = s.Time + delay
		}
	}
	if len(lost) == 0 {
		return nil
	}
	latest := int64(0)
	for _, s := range lost {
		m.ctl.Lost(s.Size)
		m.tell(api.Event{Kind: api.EvLost, Space: space, Number: s.Number})
		latest = max(latest, s.Time)
		if !passed(s) {
			m.byTime++
		}
		if !old(s) {
			m.byNumber++
		}
	}
	m.ctl.Event(m.now, latest)
	if m.persistent(w, lost) {
		m.ctl.Collapse()
		m.est.Restart()
		m.tell(api.Event{Kind: api.EvCollapse, Space: space})
	}
	return lost
}

// persistent holds each two of them against one another.
func (m *reading) persistent(w *row, lost []api.Sent) bool {
	v := m.est.View()
	if !v.Has {
		return false
	}
	for _, a := range lost {
		for _, b := range lost {
			both := a.Eliciting && b.Eliciting && a.Time > v.First && b.Time > v.First
			if both && b.Time-a.Time > 3*(m.est.Base()+m.putOff) && !w.told(a.Number+1, b.Number-1) {
				return true
			}
		}
	}
	return false
}

// A wish is a timer that may be.
type wish struct {
	kind, in int
	at       int64
}

// wishes are those of the first case of P14.6 that applies, and which that is.
func (m *reading) wishes() (int, []wish) {
	var l []wish
	for i, w := range m.rows {
		if w.open && w.loss != -1 {
			l = append(l, wish{api.ExpiryLoss, i, w.loss})
		}
	}
	if len(l) > 0 {
		return 1, l
	}
	if m.flags["BLOCKED"] {
		return 2, nil
	}
	span := func(space int) int64 {
		return rtt.PTO(m.est.Base(), []int64{0, 0, m.putOff}[space], m.count, m.c.MaxPTO)
	}
	for i, w := range m.rows {
		if w.open && len(w.those(asked)) > 0 && (i < 2 || m.flags["CONFIRMED"]) {
			l = append(l, wish{api.ExpiryProbe, i, max(m.probed, w.last()) + span(i)})
		}
	}
	if len(l) > 0 {
		return 3, l
	}
	if m.flags["SURE"] {
		return 4, nil
	}
	if m.flags["KEYS"] {
		return 5, []wish{{api.ExpiryProbe, 1, m.now + span(1)}}
	}
	return 5, []wish{{api.ExpiryProbe, 0, m.now + span(0)}}
}

// last is the Time of the last Eliciting one that was sent.
func (w *row) last() int64 {
	for _, s := range slices.Backward(w.sent) {
		if s.Eliciting {
			return s.Time
		}
	}
	return -1
}

// set sets the timer.
func (m *reading) set() {
	which, l := m.wishes()
	m.which = which
	first := wish{api.ExpiryNone, 0, api.Never}
	if len(l) > 0 {
		slices.SortStableFunc(l, func(a, b wish) int { return cmp.Compare(a.at, b.at) })
		first = l[0]
		if len(l) > 1 && l[1].at == first.at {
			m.alike++
		}
	}
	if first != (wish{m.kind, m.in, m.deadline}) {
		m.kind, m.in, m.deadline = first.kind, first.in, first.at
		m.tell(api.Event{Kind: api.EvTimer, Space: m.in, A: m.deadline, B: int64(m.kind)})
	}
}

func (m *reading) timeout(now int64) api.Expiry {
	m.tick(now)
	x := api.Expiry{}
	if m.kind == api.ExpiryNone || m.deadline > m.now {
		return x
	}
	x.Kind, x.Space = m.kind, m.in
	m.call(func() {
		if x.Kind == api.ExpiryLoss {
			x.Lost = m.lose(x.Space)
			return
		}
		m.count++
		m.probed = m.now
		m.tell(api.Event{Kind: api.EvProbe, Space: x.Space, A: int64(m.count)})
		x.Probes = 2
		for i, w := range m.rows {
			l := w.those(asked)
			if len(l) > 2 {
				l = l[:2]
			}
			x.Again[i] = l
		}
	})
	return x
}

func (m *reading) drop(now int64, space int) {
	if space < 0 || space > 2 || !m.rows[space].open {
		return
	}
	m.tick(now)
	m.call(func() {
		w := m.rows[space]
		for _, s := range w.become(isDropped, w.those(anyOne)) {
			m.ctl.Dropped(s.Size)
		}
		w.open, w.loss, m.count = false, -1, 0
		m.tell(api.Event{Kind: api.EvDropped, Space: space})
	})
}

// raise is Keys, Confirm and Blocked: the flags are what is told.
func (m *reading) raise(now int64, is bool, flags ...string) {
	m.tick(now)
	m.call(func() {
		for _, f := range flags {
			m.flags[f] = is
		}
	})
}

func (m *reading) peer(p api.Params) {
	into := func(n, most int64) int64 { return max(0, min(n, most)) }
	m.putOff, m.exp = into(p.AckDelay, 1<<36), int(into(int64(p.AckExp), 20))
}

func (m *reading) may(space int, size int64) bool {
	return space >= 0 && space <= 2 && m.rows[space].open && len(m.rows[space].those(anyOne)) <= 251 && m.ctl.May(size)
}

func (m *reading) view() api.Recovery {
	v := api.Recovery{RTT: m.est.View(), Window: m.ctl.View(), Count: m.count, Deadline: m.deadline, Kind: m.kind, In: m.in}
	for i, w := range m.rows {
		s := api.Space{Open: w.open, Next: w.next(), Largest: w.largest, Last: w.last(), Loss: w.loss}
		for _, p := range w.those(anyOne) {
			s.Flight += p.Size
			s.Kept++
		}
		s.Waiting = len(w.those(asked))
		v.Spaces[i], v.Marks[i] = s, w.heeded
	}
	return v
}

// ask are the events that weren't asked for yet.
func (m *reading) ask() []api.Event {
	l := m.events
	if len(l) > 4096 {
		l = l[len(l)-4096:]
	}
	m.events = nil
	return l
}
