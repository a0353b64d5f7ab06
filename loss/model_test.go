package loss

import (
	"cmp"
	"math"
	"math/rand/v2"
	"reflect"
	"slices"
	"testing"

	"portage/api"
)

// A step is a call that is made, by a letter: Sent, Ack, Timeout, Drop, Peer, Keys, Confirm, Blocked, Limited, May, Next.
type step struct {
	call   byte
	now    int64
	space  int
	packet api.Sent
	frame  api.Frame
	params api.Params
	is     bool
	size   int64
}

// An answer is what comes of it.
type answer struct {
	outcome api.Outcome
	expiry  api.Expiry
	number  int64
	may     bool
	err     api.Errno
}

func play(l *Loss, s step) (a answer) {
	switch s.call {
	case 'S':
		a.outcome, a.err = l.Sent(s.now, s.space, s.packet)
	case 'A':
		a.outcome, a.err = l.Ack(s.now, s.space, s.frame)
	case 'T':
		a.expiry = l.Timeout(s.now)
	case 'D':
		l.Drop(s.now, s.space)
	case 'P':
		l.Peer(s.params)
	case 'K':
		l.Keys(s.now)
	case 'C':
		l.Confirm(s.now)
	case 'B':
		l.Blocked(s.now, s.is)
	case 'L':
		l.Limited(s.is)
	case 'M':
		a.may = l.May(s.space, s.size)
	case 'N':
		a.number, a.err = l.Next(s.space)
	}
	return a
}

func (m *reading) play(s step) (a answer) {
	switch s.call {
	case 'S':
		a.outcome, a.err = m.send(s.now, s.space, s.packet)
	case 'A':
		a.outcome, a.err = m.ack(s.now, s.space, s.frame)
	case 'T':
		a.expiry = m.timeout(s.now)
	case 'D':
		m.drop(s.now, s.space)
	case 'P':
		m.peer(s.params)
	case 'K':
		m.raise(s.now, true, "KEYS")
	case 'C':
		m.raise(s.now, true, "CONFIRMED", "SURE")
	case 'B':
		m.raise(s.now, s.is, "BLOCKED")
	case 'L':
		m.flags["LIMITED"] = s.is
	case 'M':
		a.may = m.may(s.space, s.size)
	case 'N':
		a.number, a.err = m.next(s.space)
	}
	return a
}

// A mood is what a row of steps does mostly.
type mood struct {
	calls  string // of which one is taken
	unit   int64  // so far times go on, about
	spaces string // of which one is taken
	recent int    // so far back reaches most that is acknowledged
	bare   int    // so many packets of ten aren't Counted
	jumps  int    // one time of so many is far later
}

var moods = []mood{
	{"SSSSSSSSSAAAATTLM", 2000, "222222201", 8, 1, 40},
	{"SSSAAT", 20000, "012", 5, 2, 40},
	{"SSSSSAATB", 1, "0122", 6, 2, 40},
	{"SSSSAT", 200000, "122", 6, 1, 40},
	{"SSSSSSSSSSSSSSSSSSSSSSSSSSSSSSSSSSSSSSSSSSSSSSSSA", 30, "2", 400, 1, 40},
	{"SSSSSSSSA", 100, "2", 900, 7, 40},
	{"SSTTTTTTTTTTTAB", 50000, "012", 3, 1, 40},
	{"SSSSSSSSSSSAA", 500, "1222", 2, 1, 5},
	{"SSSAAAT", 3000, "0011", 4, 0, 8},
}

// someTime is mostly a little later than the clock.
func someTime(r *rand.Rand, m *reading, d mood) int64 {
	if r.IntN(d.jumps) == 0 {
		return m.now + 20*r.Int64N(d.unit+1)
	}
	switch r.IntN(40) {
	case 0:
		return m.now - r.Int64N(3*d.unit)
	case 1:
		return []int64{-1, 0, math.MinInt64, m.now, m.now + 1}[r.IntN(5)]
	}
	return m.now + r.Int64N(d.unit+1)
}

// someSpace is mostly one of the mood's.
func someSpace(r *rand.Rand, d mood) int {
	if r.IntN(200) == 0 {
		return noSpaces[r.IntN(len(noSpaces))]
	}
	return int(d.spaces[r.IntN(len(d.spaces))] - '0')
}

func somePacket(r *rand.Rand, d mood) api.Sent {
	s := api.Sent{Number: r.Int64N(50), Time: r.Int64N(50), Size: r.Int64N(1500), Probe: r.IntN(5) == 0, Told: r.Int64N(9) - 1}
	s.Counted = r.IntN(10) >= d.bare
	s.Eliciting = s.Counted && r.IntN(5) > 0
	if r.IntN(6) == 0 {
		s.Frames = slices.Clone(rich(r.Int64N(50), 0).Frames[:1+r.IntN(4)])
	}
	switch r.IntN(150) {
	case 0:
		s.Size = []int64{-1, 0, 65535, 65536, math.MinInt64, math.MaxInt64}[r.IntN(6)]
	case 1:
		s.Eliciting = true
	}
	return s
}

// someRuns are ones of numbers that were sent, mostly of the last ones, now and then of none.
func someRuns(r *rand.Rand, w *row, d mood) []api.Run {
	var l []api.Run
	for range r.IntN(4) {
		lo := max(w.next()-1-int64(r.IntN(d.recent)), w.first)
		if d.recent > 500 && len(w.sent) > 1 {
			lo = w.first + 1 + 2*r.Int64N(int64(len(w.sent))/2)
		}
		hi := lo
		if r.IntN(4) == 0 && d.recent < 500 {
			hi = min(lo+int64(r.IntN(4)), w.next()-1)
		}
		switch r.IntN(250) {
		case 0:
			lo, hi = hi, lo-1
		case 1:
			hi = w.next()
		case 2:
			lo = w.first - 1
		case 3:
			lo = []int64{-1, math.MinInt64, api.MaxNumber, math.MaxInt64}[r.IntN(4)]
		}
		l = append(l, api.Run{Lo: lo, Hi: hi})
	}
	if r.IntN(3) > 0 {
		slices.SortFunc(l, func(a, b api.Run) int { return cmp.Compare(b.Lo, a.Lo) })
	}
	return l
}

func someFrame(r *rand.Rand, m *reading, space int, d mood) api.Frame {
	f := api.Frame{Kind: api.KAck, Delay: r.Int64N(d.unit + 1)}
	w := m.rows[max(0, min(space, 2))]
	if len(w.sent) > 0 || r.IntN(10) == 0 {
		f.Runs = someRuns(r, w, d)
	}
	switch r.IntN(60) {
	case 0:
		f.Delay = []int64{-1, math.MinInt64, math.MaxInt64, api.MaxTime, 1 << 44, 1<<47 + 1}[r.IntN(6)]
	case 1:
		f.Kind = []int{api.KPing, api.KPadding, 3, -2}[r.IntN(4)]
	}
	if r.IntN(3) == 0 {
		f.Marks, f.Counts = true, w.marks
		for i := range f.Counts {
			f.Counts[i] += int64(r.IntN(3) / 2)
		}
		if r.IntN(60) == 0 {
			f.Counts[r.IntN(3)]--
		}
	}
	return f
}

func someStep(r *rand.Rand, m *reading, d mood) step {
	s := step{call: d.calls[r.IntN(len(d.calls))], now: someTime(r, m, d), space: someSpace(r, d), is: r.IntN(3) == 0}
	if n := r.IntN(1500); n < 45 {
		s.call = "PPPPLLLLBBBBBBKCCD"[n%18]
	} else if n < 90 {
		s.call = "MN"[n%2]
	}
	switch s.call {
	case 'S':
		s.packet = somePacket(r, d)
	case 'A':
		s.frame = someFrame(r, m, s.space, d)
	case 'T':
		if m.deadline != api.Never && r.IntN(4) > 0 {
			s.now = m.deadline + []int64{0, 0, 0, -1, 1, r.Int64N(d.unit + 1)}[r.IntN(6)]
		}
	case 'P':
		s.params = api.Params{AckDelay: r.Int64N(3*d.unit + 1), AckExp: r.IntN(24) - 1}
		if r.IntN(8) == 0 {
			s.params.AckDelay = []int64{-1, api.MaxSpan, api.MaxSpan + 1, math.MinInt64, math.MaxInt64}[r.IntN(5)]
		}
	case 'M':
		s.size = r.Int64N(20000) - 100
	}
	return s
}

// someConfig is one that may be, its spans about as great as times go on.
func someConfig(r *rand.Rand, d mood) api.Config {
	c := api.Config{MTU: []int{1200, 1200, 1472, 9000}[r.IntN(4)], Cubic: r.IntN(2) == 0, Granularity: []int64{1, 1000, 1 + r.Int64N(1000)}[r.IntN(3)]}
	c.InitialRTT = 1 + min(d.unit*(1+r.Int64N(20)), 59999999)
	c.MaxPTO = c.Granularity + d.unit*r.Int64N(200)
	if r.IntN(6) == 0 {
		c.MaxPTO = []int64{c.Granularity, api.MaxSpan}[r.IntN(2)]
	}
	for i := range c.First {
		c.First[i] = []int64{0, 0, 0, r.Int64N(1 << 40), api.MaxNumber - r.Int64N(600)}[r.IntN(5)]
	}
	return c
}

// met counts how often each kind of case was met.
type met struct {
	events   [api.EvDropped + 1]int
	expiries [3][api.Spaces]int
	errs     map[api.Errno]int
	cases    [6]int // of the timer
	nothing  int    // acknowledgements of nothing new
	none     int    // loss timers of nothing
	mays     [2]int
	alike    int
	byTime   int
	byNumber int
	cuts     int
	caps     int // expiries whose next one is capped
}

func (k *met) see(m *reading, s step, a answer) {
	k.errs[a.err]++
	k.cases[m.which]++
	if s.call == 'A' && a.err == api.OK && len(a.outcome.Acked) == 0 && len(s.frame.Runs) > 0 {
		k.nothing++
	}
	if s.call == 'T' && a.expiry.Kind != 0 {
		k.expiries[a.expiry.Kind][a.expiry.Space]++
		if a.expiry.Kind == loses && len(a.expiry.Lost) == 0 {
			k.none++
		}
		if m.kind == asks && m.deadline == m.now+m.c.MaxPTO {
			k.caps++
		}
	}
	if s.call == 'M' && a.may {
		k.mays[1]++
	} else if s.call == 'M' {
		k.mays[0]++
	}
}

// enough fails if a kind of case was met too seldom.
func (k *met) enough(t *testing.T) {
	t.Helper()
	counts := append(append(k.events[1:], k.cases[1:]...), k.nothing, k.none, k.mays[0], k.mays[1], k.alike, k.byTime, k.byNumber, k.cuts, k.caps)
	counts = append(append(counts, k.expiries[loses][:]...), k.expiries[asks][:]...)
	for _, e := range []api.Errno{api.OK, api.ErrArg, api.ErrOver, api.ErrLedgerNever, api.ErrLedgerLast} {
		counts = append(counts, k.errs[e])
	}
	for _, n := range counts {
		if n < 60 {
			t.Errorf("a kind of case was met %d times alone: %+v", n, *k)
		}
	}
}

// agrees fails if a Loss isn't what the reading says.
func agrees(t *testing.T, r *rand.Rand, l *Loss, m *reading) {
	t.Helper()
	if got, want := l.View(), m.view(); got != want || l.Deadline() != want.Deadline {
		t.Errorf("P14.10: against a second reading: View() = %+v, want %+v", got, want)
	}
	if got, want := l.Period(), min(m.c.MaxPTO, m.est.Base()+m.putOff); got != want {
		t.Errorf("P14.10: against a second reading: Period() = %d, want %d", got, want)
	}
	if r.IntN(6) == 0 {
		if got, want := l.Events(), m.ask(); !slices.Equal(got, want) {
			t.Errorf("P14.9: against a second reading: events %+v, want %+v", got, want)
		}
	}
}

// begin makes a Loss and its reading, the handshake mostly behind them.
func begin(t *testing.T, r *rand.Rand, d mood) (*Loss, *reading) {
	t.Helper()
	c, role := someConfig(r, d), r.IntN(2)
	l, m := made(t, c, role), newReading(c, role)
	for _, s := range []step{{call: 'K'}, {call: 'P', params: api.Params{AckDelay: d.unit, AckExp: r.IntN(4)}}, {call: 'C', now: 3}, {call: 'L'}} {
		if r.IntN(2) == 0 {
			play(l, s)
			m.play(s)
		}
	}
	return l, m
}

func TestAgainstASecondReading(t *testing.T) {
	r := rand.New(rand.NewPCG(14, 1))
	k := met{errs: map[api.Errno]int{}}
	for round := range 450 {
		d := moods[round%len(moods)]
		l, m := begin(t, r, d)
		for i := range 50 + r.IntN(900) {
			s := someStep(r, m, d)
			told := len(m.events)
			got, want := play(l, s), m.play(s)
			if !reflect.DeepEqual(got, want) {
				t.Fatalf("P14.1 to P14.8: against a second reading: %+v answers %+v, want %+v", s, got, want)
			}
			for _, e := range m.events[told:] {
				k.events[e.Kind]++
			}
			agrees(t, r, l, m)
			if t.Failed() {
				t.Fatalf("round %d, %+v, step %d: behind %+v", round, m.c, i, s)
			}
			if k.see(m, s, got); got.err == api.ErrOver && r.IntN(20) == 0 {
				break
			}
		}
		k.alike, k.byTime, k.byNumber, k.cuts = k.alike+m.alike, k.byTime+m.byTime, k.byNumber+m.byNumber, k.cuts+m.cuts
	}
	k.enough(t)
}

// What follows: the window's flight is the sum over the spaces; a space that was dropped has none.
func TestFlightIsTheSum(t *testing.T) {
	r := rand.New(rand.NewPCG(14, 2))
	dropped := 0
	for round := range 100 {
		d := moods[round%len(moods)]
		l, m := begin(t, r, d)
		for range 50 + r.IntN(500) {
			s := someStep(r, m, d)
			m.play(s)
			play(l, s)
			v, sum := l.View(), int64(0)
			for _, x := range v.Spaces {
				sum += x.Flight
				if !x.Open && (x.Flight != 0 || x.Kept != 0 || x.Loss != -1) {
					t.Fatalf("What follows: a space that was dropped: %+v", x)
				}
			}
			if v.Window.Flight != sum {
				t.Fatalf("What follows: behind %+v the flight is %d, and the sum over the spaces %d", s, v.Window.Flight, sum)
			}
			if s.call == 'D' {
				dropped++
			}
		}
	}
	if dropped < 20 {
		t.Errorf("%d times a space was dropped: too seldom", dropped)
	}
}

// What follows: each packet that is lost lies below one of its space that was acknowledged.
func TestLostLieBelow(t *testing.T) {
	r := rand.New(rand.NewPCG(14, 3))
	lost := 0
	for round := range 100 {
		d := moods[round%len(moods)]
		l, m := begin(t, r, d)
		greatest := [api.Spaces]int64{-1, -1, -1}
		for range 50 + r.IntN(500) {
			s := someStep(r, m, d)
			m.play(s)
			a := play(l, s)
			if s.call == 'S' {
				continue
			}
			space := a.expiry.Space
			if s.call == 'A' {
				if space = s.space; a.err == api.OK {
					for _, x := range s.frame.Runs {
						greatest[space] = max(greatest[space], x.Hi)
					}
				}
			}
			for _, p := range append(a.outcome.Lost, a.expiry.Lost...) {
				if lost++; p.Number >= greatest[space] {
					t.Fatalf("What follows: %d is lost in %d, and the greatest that was acknowledged is %d", p.Number, space, greatest[space])
				}
			}
		}
	}
	if lost < 2000 {
		t.Errorf("%d were lost: too few", lost)
	}
}

// What follows: whatever came ahead, asked at each deadline, each probe expiry is at most c.MaxPTO behind the last one.
func TestProbesGoOnBehindAnything(t *testing.T) {
	r := rand.New(rand.NewPCG(14, 4))
	expiries := 0
	for round := range 300 {
		d := moods[round%len(moods)]
		l, m := begin(t, r, d)
		for range r.IntN(300) {
			s := someStep(r, m, d)
			m.play(s)
			play(l, s)
		}
		last := int64(-1)
		for range 40 {
			at := l.Deadline()
			if at > api.MaxTime {
				break
			}
			x := l.Timeout(at)
			if x.Kind == none {
				t.Fatalf("P14.7: at the deadline %d nothing is due", at)
			}
			if x.Kind != asks {
				continue
			}
			if expiries++; last >= 0 && max(at, l.clock) > last+m.c.MaxPTO {
				t.Fatalf("What follows: a probe expiry at %d, the last one at %d, the cap %d", at, last, m.c.MaxPTO)
			}
			last = l.clock
		}
	}
	if expiries < 2000 {
		t.Errorf("%d expiries: too few", expiries)
	}
}

// Two that were told the same answer the same, whatever is asked of one of them between (R4).
func TestAlikeAnswerAlike(t *testing.T) {
	r := rand.New(rand.NewPCG(14, 5))
	for round := range 40 {
		d := moods[round%len(moods)]
		c, role := someConfig(r, d), r.IntN(2)
		a, b, m := made(t, c, role), made(t, c, role), newReading(c, role)
		for range 1 + r.IntN(400) {
			s := someStep(r, m, d)
			m.play(s)
			got := play(a, s)
			look(a)
			if again := play(b, s); !reflect.DeepEqual(got, again) {
				t.Fatalf("R4: %+v answers %+v, and again %+v", s, got, again)
			}
		}
		same(t, "R4: of two that were told the same", b, look(a))
	}
}
