package send

import (
	"math"
	"math/rand/v2"
	"slices"
	"testing"

	"portage/api"
)

// What became of an offset, or of the fin.
const (
	isNever = iota // it was never sent
	isUnderWay
	isLost
	isAcked
)

// A reading is a second reading of the chapter's words: all bytes that were ever written, and what became of each.
type reading struct {
	capacity int
	bytes    []byte
	state    []int // of each offset below Written
	told     bool
	fin      int
	stopped  bool
}

func newReading(capacity int) *reading { return &reading{capacity: capacity} }

func (m *reading) sent() int {
	end := 0
	for x, state := range m.state {
		if state != isNever {
			end = x + 1
		}
	}
	return end
}

func (m *reading) base() int {
	for x, state := range m.state {
		if state != isAcked {
			return x
		}
	}
	return len(m.state)
}

func (m *reading) write(p []byte) api.Errno {
	if m.told || m.stopped {
		return api.ErrSendDone
	}
	if len(m.bytes)-m.base()+len(p) > m.capacity {
		return api.ErrFull
	}
	m.bytes = append(m.bytes, p...)
	m.state = append(m.state, make([]int, len(p))...)
	return api.OK
}

func (m *reading) finish() api.Errno {
	if m.told || m.stopped {
		return api.ErrSendDone
	}
	m.told = true
	return api.OK
}

func (m *reading) next(most int, limit int64) (off int64, data []byte, fin, ok bool) {
	if m.stopped {
		return 0, nil, false, false
	}
	from := slices.Index(m.state, isLost)
	state, below := isLost, int64(math.MaxInt64)
	if from < 0 && slices.Contains(m.state, isNever) && int64(m.sent()) < limit {
		from, state, below = m.sent(), isNever, limit
	}
	if from < 0 && m.told && m.sent() == len(m.bytes) && (m.fin == isNever || m.fin == isLost) {
		m.fin = isUnderWay
		return int64(len(m.bytes)), nil, true, true
	}
	if from < 0 || most < 1 {
		return 0, nil, false, false
	}
	x := from
	for x < len(m.state) && m.state[x] == state && int64(x) < below && len(data) < most {
		m.state[x] = isUnderWay
		data = append(data, m.bytes[x])
		x++
	}
	fin = m.told && x == len(m.bytes)
	if fin && m.fin != isAcked {
		m.fin = isUnderWay
	}
	return int64(from), data, fin, true
}

// meant are those that were sent of the offsets from off on, size of them.
func (m *reading) meant(off, size int64) []int {
	var l []int
	for x := range m.sent() {
		// How far it lies behind off is right as a uint64, wherever off is.
		if off <= int64(x) && size > 0 && uint64(x)-uint64(off) < uint64(size) {
			l = append(l, x)
		}
	}
	return l
}

func (m *reading) acked(off, size int64, fin bool) {
	if m.stopped {
		return
	}
	for _, x := range m.meant(off, size) {
		m.state[x] = isAcked
	}
	if fin && m.fin != isNever {
		m.fin = isAcked
	}
}

func (m *reading) lost(off, size int64, fin bool) {
	if m.stopped {
		return
	}
	for _, x := range m.meant(off, size) {
		if m.state[x] != isAcked {
			m.state[x] = isLost
		}
	}
	if fin && m.fin == isUnderWay {
		m.fin = isLost
	}
}

func (m *reading) done() bool {
	return m.told && m.base() == len(m.bytes) && m.fin == isAcked
}

func (m *reading) stop() {
	if m.done() {
		return
	}
	m.stopped = true
	for x, state := range m.state {
		if state == isLost {
			m.state[x] = isUnderWay
		}
	}
	if m.fin == isLost {
		m.fin = isUnderWay
	}
}

// runs are those of the offsets of which this became.
func (m *reading) runs(state int) []api.Run {
	var l []api.Run
	for x, is := range m.state {
		if is != state {
			continue
		}
		if x == 0 || m.state[x-1] != state {
			l = append(l, api.Run{Lo: int64(x)})
		}
		l[len(l)-1].Hi = int64(x)
	}
	return l
}

func (m *reading) view() api.SendView {
	return api.SendView{
		Written: int64(len(m.bytes)), Sent: int64(m.sent()), Base: int64(m.base()), Acked: m.runs(isAcked), Lost: m.runs(isLost),
		Fin: m.told, FinSent: m.fin == isUnderWay || m.fin == isAcked, FinAcked: m.fin == isAcked, Stopped: m.stopped, Done: m.done(),
	}
}

// A step is a call that was made, by its name's first letter; of Stop it is O.
type step struct {
	call  byte
	data  []byte
	most  int
	limit int64
	off   int64
	size  int64
	fin   bool
}

func (m *reading) play(c step) (api.Errno, string) {
	switch c.call {
	case 'W':
		return m.write(c.data), ""
	case 'F':
		return m.finish(), ""
	case 'N':
		return api.OK, piece(m.next(c.most, c.limit))
	case 'A':
		m.acked(c.off, c.size, c.fin)
	case 'L':
		m.lost(c.off, c.size, c.fin)
	case 'O':
		m.stop()
	}
	return api.OK, ""
}

// play makes the call of a Send.
func play(s *Send, c step) (api.Errno, string) {
	switch c.call {
	case 'W':
		return s.Write(c.data), ""
	case 'F':
		return s.Fin(), ""
	case 'N':
		return api.OK, piece(s.Next(c.most, c.limit))
	case 'A':
		s.Acked(c.off, c.size, c.fin)
	case 'L':
		s.Lost(c.off, c.size, c.fin)
	case 'O':
		s.Stop()
	}
	return api.OK, ""
}

// A walk is a row of steps: what they do mostly, and what they know of the pieces that went.
type walk struct {
	r      *rand.Rand
	calls  string // of which one is taken
	most   int    // bytes of a Write, of a piece
	far    int64  // how far a limit is above Sent at most
	wild   int    // so many of a hundred steps speak of any offsets, not of a piece
	rare   int    // Fin and Stop come once in so many steps
	pieces []step // what went, and may be acknowledged or lost, early or late
}

var moods = []walk{
	{calls: "WWNNNAL", most: 6, far: 9, wild: 30, rare: 160},
	{calls: "WNNALALA", most: 3, far: 4, wild: 50, rare: 200},
	{calls: "WWWNNNNNAAAL", most: 30, far: 60, wild: 40, rare: 300},
	{calls: "WNALLLN", most: 8, far: 1000, wild: 60, rare: 100},
}

func newWalk(r *rand.Rand) *walk {
	w := moods[r.IntN(len(moods))]
	w.r = r
	return &w
}

func (w *walk) data(size int) []byte {
	p := make([]byte, size)
	for i := range p {
		p[i] = byte('a' + w.r.IntN(26))
	}
	return p
}

// edge is a number at an edge.
func (w *walk) edge(sent, written int64) int64 {
	return []int64{math.MinInt64, math.MinInt64 + 1, -1 << 62, -2, -1, 0, 1, sent - 1, sent, sent + 1, written - 1, written, written + 1, api.MaxNumber, math.MaxInt64 - 1, math.MaxInt64}[w.r.IntN(16)]
}

// limit is one near Sent or Written, or one at an edge.
func (w *walk) limit(v api.SendView) int64 {
	if w.r.IntN(12) == 0 {
		return w.edge(v.Sent, v.Written)
	}
	return v.Sent - 1 + w.r.Int64N(w.far+2)
}

// room is what may go at most, now and then none.
func (w *walk) room() int {
	if w.r.IntN(12) == 0 {
		return []int{math.MinInt, -1, 0, 0, 1, math.MaxInt - 1, math.MaxInt}[w.r.IntN(7)]
	}
	return 1 + w.r.IntN(w.most)
}

// stretch is a piece that went, or any offsets.
func (w *walk) stretch(v api.SendView) (off, size int64, fin bool) {
	if n := len(w.pieces); n > 0 && w.r.IntN(100) >= w.wild {
		p := w.pieces[n-1-w.r.IntN(min(n, 12))]
		return p.off, p.size, p.fin
	}
	if w.r.IntN(3) == 0 {
		// So that a stream goes on whose first pieces went long ago.
		return v.Base, w.r.Int64N(2 * int64(w.most)), false
	}
	off, size = w.r.Int64N(v.Sent+4)-2, w.r.Int64N(3*int64(w.most))-1
	if w.r.IntN(6) == 0 {
		off = w.edge(v.Sent, v.Written)
	}
	if w.r.IntN(6) == 0 {
		size = w.edge(v.Sent, v.Written)
	}
	return off, size, w.r.IntN(4) == 0
}

func (w *walk) step(v api.SendView, capacity int) step {
	c := step{call: w.calls[w.r.IntN(len(w.calls))]}
	if w.r.IntN(w.rare) == 0 {
		c.call = 'F'
	}
	if w.r.IntN(4*w.rare) == 0 {
		c.call = 'O'
	}
	switch c.call {
	case 'W':
		size := w.r.IntN(w.most + 1)
		if left := capacity - int(v.Written-v.Base); w.r.IntN(6) == 0 {
			size = max(left+w.r.IntN(3)-1, 0)
		}
		c.data = w.data(size)
	case 'N':
		c.most, c.limit = w.room(), w.limit(v)
	case 'A', 'L':
		c.off, c.size, c.fin = w.stretch(v)
	}
	return c
}

// know keeps the piece that a step will tell.
func (w *walk) know(s *Send, c step) {
	if c.call != 'N' {
		return
	}
	if off, data, fin, ok := twin(s).Next(c.most, c.limit); ok {
		w.pieces = append(w.pieces, step{off: off, size: int64(len(data)), fin: fin})
	}
}

// met counts how often each kind of case was met.
type met struct {
	errs                                      map[api.Errno]int
	again, fresh, finAlone, finWith, finAgain int // pieces
	tight                                     int // nothing, since there was no room for what is lost
	late, over, done, stopped, wrapped        int
}

func (k *met) see(ahead, behind api.SendView, c step, err api.Errno, got string) {
	k.errs[err]++
	switch {
	case c.call == 'N' && got != "nothing":
		k.seePiece(ahead, behind)
	case c.call == 'N' && len(ahead.Lost) > 0 && !ahead.Stopped:
		k.tight++
	case c.call == 'A' && len(behind.Lost) < len(ahead.Lost):
		k.late++
	case c.call == 'L' && len(ahead.Acked) > 1 && len(behind.Lost) > len(ahead.Lost)+1:
		k.over++
	}
	if behind.Done && !ahead.Done {
		k.done++
	}
	if behind.Stopped && !ahead.Stopped {
		k.stopped++
	}
}

func (k *met) seePiece(ahead, behind api.SendView) {
	switch {
	case len(ahead.Lost) > 0 && behind.FinAcked && len(behind.Lost) == 0:
		k.finAgain++
	case len(ahead.Lost) > 0:
		k.again++
	case behind.Sent == ahead.Sent:
		k.finAlone++
	case behind.FinSent:
		k.finWith++
	default:
		k.fresh++
	}
}

// enough fails if a kind of case was met too seldom.
func (k *met) enough(t *testing.T) {
	t.Helper()
	counts := []int{k.again, k.fresh, k.finAlone, k.finWith, k.finAgain, k.tight, k.late, k.over, k.done, k.stopped, k.wrapped}
	for _, e := range []api.Errno{api.OK, api.ErrFull, api.ErrSendDone} {
		counts = append(counts, k.errs[e])
	}
	for _, n := range counts {
		if n < 100 {
			t.Errorf("a kind of case was met %d times alone: %+v", n, *k)
		}
	}
}

func someCapacity(r *rand.Rand) int {
	return []int{1, 2, 3, 5 + r.IntN(8), 20 + r.IntN(50), 300}[r.IntN(6)]
}

// agrees fails if one isn't what the reading says, or if Waits isn't what Next would tell.
func agrees(t *testing.T, w *walk, s *Send, m *reading) {
	t.Helper()
	v := m.view()
	views(t, "P15.9: against a second reading", s, text(v))
	for _, limit := range []int64{w.limit(v), v.Sent, v.Sent + 1, v.Written} {
		_, _, _, ok := twin(s).Next(1, limit)
		waits(t, "P15.5: beside Next(1, limit)", s, limit, ok)
	}
}

func TestAgainstASecondReading(t *testing.T) {
	r := rand.New(rand.NewPCG(15, 1))
	k := met{errs: map[api.Errno]int{}}
	for range 1500 {
		capacity := someCapacity(r)
		w, s, m := newWalk(r), made(t, capacity), newReading(capacity)
		for i := range 20 + r.IntN(250) {
			ahead := m.view()
			c := w.step(ahead, capacity)
			w.know(s, c)
			err, got := play(s, c)
			if wantErr, want := m.play(c); err != wantErr || got != want {
				t.Fatalf("P15.2 to P15.8: against a second reading: step %d, %+v answers %d, %s, want %d, %s", i, c, err, got, wantErr, want)
			}
			if agrees(t, w, s, m); t.Failed() {
				t.Fatalf("New(%d), step %d: behind %+v", capacity, i, c)
			}
			behind := m.view()
			k.see(ahead, behind, c, err, got)
			if (behind.Done || behind.Stopped) && r.IntN(12) == 0 {
				break
			}
		}
		if len(m.bytes) > 3*capacity {
			k.wrapped++
		}
	}
	k.enough(t)
}

// somewhere is one behind a row of steps, with its bytes as they were written.
func somewhere(t *testing.T, r *rand.Rand) (*walk, *Send, *reading) {
	t.Helper()
	capacity := someCapacity(r)
	w, s, m := newWalk(r), made(t, capacity), newReading(capacity)
	for range r.IntN(200) {
		c := w.step(s.View(), capacity)
		w.know(s, c)
		play(s, c)
		m.play(c)
	}
	return w, s, m
}

// losses makes nothing be under way: piece by piece in any order, or all at once.
func losses(w *walk, s *Send) {
	w.r.Shuffle(len(w.pieces), func(i, j int) { w.pieces[i], w.pieces[j] = w.pieces[j], w.pieces[i] })
	for _, p := range w.pieces {
		s.Lost(p.off, p.size, p.fin)
		if w.r.IntN(9) == 0 {
			s.Acked(p.off, p.size, p.fin)
		}
	}
	s.Lost(0, math.MaxInt64, true)
}

// P15.11: nothing is forgotten.
func TestNothingIsForgotten(t *testing.T) {
	r := rand.New(rand.NewPCG(15, 2))
	times := 0
	for range 4000 {
		w, s, m := somewhere(t, r)
		s.Fin()
		losses(w, s)
		v := s.View()
		if v.Stopped || v.Done {
			continue
		}
		times++
		for _, most := range mosts {
			for _, limit := range []int64{v.Written, v.Written + 1, api.MaxNumber, math.MaxInt64} {
				if _, _, _, ok := twin(s).Next(most, limit); most >= 1 && !ok {
					t.Fatalf("P15.11: %s: Next(%d, %d) tells nothing", text(v), most, limit)
				}
			}
		}
		left := v.Written
		for _, x := range v.Acked {
			left -= x.Hi - x.Lo + 1
		}
		for n := int64(0); !s.View().Done; n++ {
			off, data, fin, ok := s.Next(1+r.IntN(4), v.Written)
			if !ok || n > left {
				t.Fatalf("P15.11: %s: behind %d pieces of %d bytes and one more it isn't done", text(v), n, left)
			}
			if end := off + int64(len(data)); string(data) != string(m.bytes[off:end]) || fin != (end == v.Written) {
				t.Fatalf("P15.12: %q at %d, %v", data, off, fin)
			}
			s.Acked(off, int64(len(data)), fin)
		}
		next(t, "P15.11: it is done", s, 99, math.MaxInt64, "nothing")
	}
	if times < 1000 {
		t.Errorf("%d times: too few", times)
	}
}

// P15.11: just as many pieces as there are bytes, and one more, where each has one byte and the fin goes alone.
func TestNothingIsForgottenAtMost(t *testing.T) {
	s := holding(t, 9, "abcdefgh", 8)
	s.Acked(2, 2, false)
	fin(t, s)
	s.Lost(0, 7, false)
	s.Acked(7, 1, false)
	n := 0
	for !s.View().Done {
		off, data, fin, ok := s.Next(1, 8)
		if !ok {
			t.Fatalf("P15.11: behind %d pieces nothing", n)
		}
		s.Acked(off, int64(len(data)), fin)
		n++
	}
	if n != 6 {
		t.Errorf("P15.11: %d pieces, want 6: five bytes, and the fin", n)
	}
}

// P15.13: the bounds; and of what is held, P15.10.
func TestBounds(t *testing.T) {
	r := rand.New(rand.NewPCG(15, 3))
	for range 800 {
		capacity := someCapacity(r)
		w, s, ahead, greatest := newWalk(r), made(t, capacity), api.SendView{}, int64(0)
		for range 200 {
			c := w.step(ahead, capacity)
			w.know(s, c)
			play(s, c)
			if c.call == 'N' {
				greatest = max(greatest, c.limit)
			}
			v := s.View()
			if v.Written-v.Base > int64(capacity) || v.Sent > greatest || v.Sent > v.Written || v.Base > v.Sent {
				t.Fatalf("P15.13: New(%d), limits of at most %d: %s", capacity, greatest, text(v))
			}
			if v.Base < ahead.Base || v.Sent < ahead.Sent || v.Written < ahead.Written {
				t.Fatalf("P15.13: from %s to %s", text(ahead), text(v))
			}
			if cap(s.held) > capacity || v.Stopped && s.held != nil || v.Done && s.held != nil {
				t.Fatalf("P15.10: New(%d), %s: room for %d bytes is held", capacity, text(v), cap(s.held))
			}
			ahead = v
		}
	}
}

// Two that were told the same answer the same, also where one of them was looked at between (R4).
func TestAlikeAnswerAlike(t *testing.T) {
	r := rand.New(rand.NewPCG(15, 4))
	for range 300 {
		capacity := someCapacity(r)
		w, a, b := newWalk(r), made(t, capacity), made(t, capacity)
		for range 150 {
			c := w.step(a.View(), capacity)
			w.know(a, c)
			a.Waits(c.limit)
			err, got := play(a, c)
			if errAgain, again := play(b, c); err != errAgain || got != again {
				t.Fatalf("R4: %+v answers %d, %s, and again %d, %s", c, err, got, errAgain, again)
			}
		}
		unchanged(t, "R4: of two that were told the same", b, a.View())
	}
}
