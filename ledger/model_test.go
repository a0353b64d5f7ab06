package ledger

import (
	"cmp"
	"math"
	"math/rand/v2"
	"reflect"
	"slices"
	"testing"

	"portage/api"
)

// What became of a packet.
const (
	isBare = iota // it was never kept
	isKept
	isAcked
	isLost
	isForgotten
	isDropped
)

// A reading is a second reading of the chapter's words: all packets that were ever sent, in their row, and what became of each.
type reading struct {
	first  int64
	sent   []api.Sent
	fate   []int
	acked  []bool // is the number in ACKED?
	ever   int64  // the greatest number that was acknowledged
	closed bool
}

func newReading(first int64) *reading { return &reading{first: first, ever: -1} }

// take is what is kept and for which ok holds; this is its fate from then on.
func (m *reading) take(fate int, ok func(number int64) bool) []api.Sent {
	var l []api.Sent
	for i, s := range m.sent {
		if m.fate[i] == isKept && ok(m.first+int64(i)) {
			m.fate[i] = fate
			l = append(l, s)
		}
	}
	return l
}

func anyNumber(int64) bool { return true }

// kept is what is kept, and how many wait, and their bytes.
func (m *reading) kept() (l []api.Sent, waiting []api.Sent, flight int64) {
	for i, s := range m.sent {
		if m.fate[i] != isKept {
			continue
		}
		l, flight = append(l, s), flight+s.Size
		if s.Eliciting {
			waiting = append(waiting, s)
		}
	}
	return l, waiting, flight
}

func (m *reading) next() (int64, api.Errno) {
	next := m.first + int64(len(m.sent))
	if m.closed {
		return 0, api.ErrOver
	}
	if next == 1<<62 {
		return 0, api.ErrLedgerLast
	}
	return next, api.OK
}

func (m *reading) add(s api.Sent) ([]api.Sent, api.Errno) {
	next, err := m.next()
	if err != api.OK {
		return nil, err
	}
	if s.Number != next {
		return nil, api.ErrLedgerOrder
	}
	if s.Time < 0 || s.Time > 1<<50 || s.Size < 0 || s.Size > 65535 || (s.Eliciting && !s.Counted) {
		return nil, api.ErrArg
	}
	if n := len(m.sent); n > 0 && m.sent[n-1].Time > s.Time {
		return nil, api.ErrLedgerOrder
	}
	fate := isBare
	if s.Counted {
		fate = isKept
	}
	m.sent, m.fate, m.acked = append(m.sent, s), append(m.fate, fate), append(m.acked, false)
	if l, _, _ := m.kept(); len(l) > 256 {
		return m.take(isForgotten, func(number int64) bool { return number == l[0].Number }), api.OK
	}
	return nil, api.OK
}

func (m *reading) ack(r []api.Run) ([]api.Sent, api.Errno) {
	if m.closed {
		return nil, api.ErrOver
	}
	end := m.first + int64(len(m.sent))
	for _, x := range r {
		if x.Lo > x.Hi || x.Lo < 0 {
			return nil, api.ErrArg
		}
		if !(m.first <= x.Lo && x.Lo < end && m.first <= x.Hi && x.Hi < end) {
			return nil, api.ErrLedgerNever
		}
	}
	for _, x := range r {
		for number := x.Lo; number <= x.Hi; number++ {
			m.acked[number-m.first] = true
			if number > m.ever {
				m.ever = number
			}
		}
		for len(m.runs()) > 256 {
			low := m.runs()[0]
			for number := low.Lo; number <= low.Hi; number++ {
				m.acked[number-m.first] = false
			}
		}
	}
	return m.take(isAcked, func(number int64) bool {
		return slices.ContainsFunc(r, func(x api.Run) bool { return x.Lo <= number && number <= x.Hi })
	}), api.OK
}

// runs are those of ACKED.
func (m *reading) runs() []api.Run {
	var l []api.Run
	for i, in := range m.acked {
		number := m.first + int64(i)
		if in && (i == 0 || !m.acked[i-1]) {
			l = append(l, api.Run{Lo: number})
		}
		if in {
			l[len(l)-1].Hi = number
		}
	}
	return l
}

func (m *reading) told(lo, hi int64) bool {
	for i, in := range m.acked {
		if number := m.first + int64(i); in && lo <= number && number <= hi {
			return true
		}
	}
	return false
}

func (m *reading) view() api.Space {
	l, waiting, flight := m.kept()
	last := int64(-1)
	for _, s := range m.sent {
		if s.Eliciting {
			last = s.Time
		}
	}
	return api.Space{Open: !m.closed, Next: m.first + int64(len(m.sent)), Largest: m.ever, Last: last, Loss: -1, Flight: flight, Kept: len(l), Waiting: len(waiting)}
}

// A step is a call that was made, by its name's first letter: Add (with P, for a packet), Ack, Lose, Drop.
type step struct {
	call    byte
	packet  api.Sent
	runs    []api.Run
	numbers []int64
}

func (m *reading) play(s step) ([]api.Sent, api.Errno) {
	switch s.call {
	case 'P':
		return m.add(s.packet)
	case 'A':
		return m.ack(s.runs)
	case 'L':
		return m.take(isLost, func(number int64) bool { return slices.Contains(s.numbers, number) }), api.OK
	}
	m.closed = true
	return m.take(isDropped, anyNumber), api.OK
}

// play makes the call of a Ledger.
func play(l *Ledger, s step) ([]api.Sent, api.Errno) {
	switch s.call {
	case 'P':
		return l.Add(s.packet)
	case 'A':
		return l.Ack(s.runs...)
	case 'L':
		return l.Lose(s.numbers...), api.OK
	}
	return l.Drop(), api.OK
}

// A mood is what a row of steps does mostly.
type mood struct {
	calls  string // of which one is taken
	bare   int    // so many packets of ten aren't Counted
	recent int    // so far back reaches most that is acknowledged or lost
	most   int    // runs of an Ack, numbers of a Lose
	sparse bool   // it is odd numbers that are acknowledged, so that runs don't touch
}

var moods = []mood{
	{"PPPPPPAAALL", 3, 12, 4, false},
	{"PPPPPPPPPPPPPPPPPPPPPPPPPPPPPPPAL", 1, 400, 2, false},
	{"PPPPPPPPPPPPPPPPPPPPPPPPA", 4, 1200, 80, true},
	{"PPPPPPPPPPPPAAAL", 0, 300, 3, false},
}

// someNumber is one that was sent, mostly of the last ones, or one at an edge.
func someNumber(r *rand.Rand, m *reading, recent int) int64 {
	end := m.first + int64(len(m.sent))
	if r.IntN(80) == 0 {
		return []int64{math.MinInt64, -1, 0, m.first - 1, m.first, end, end + 1, api.MaxNumber, math.MaxInt64}[r.IntN(9)]
	}
	return max(end-1-int64(r.IntN(recent)), m.first)
}

func someRuns(r *rand.Rand, m *reading, d mood) []api.Run {
	var l []api.Run
	for range r.IntN(d.most + 1) {
		lo := someNumber(r, m, d.recent)
		if d.sparse && len(m.sent) > 1 && r.IntN(50) > 0 {
			lo = m.first + 1 + 2*r.Int64N(int64(len(m.sent))/2)
		}
		hi, end := lo, m.first+int64(len(m.sent))
		if !d.sparse && lo < end && r.IntN(3) == 0 {
			hi = min(lo+int64(r.IntN(4)), end-1)
		}
		switch r.IntN(300) {
		case 0:
			hi = lo - 1
		case 1:
			hi = end
		case 2:
			lo = m.first - 1
		}
		l = append(l, api.Run{Lo: lo, Hi: hi})
	}
	if r.IntN(2) == 0 {
		slices.SortFunc(l, func(a, b api.Run) int { return cmp.Compare(b.Lo, a.Lo) })
	}
	return l
}

// somePacket is the next one, or now and then one that is wrong in something.
func somePacket(r *rand.Rand, m *reading, d mood) api.Sent {
	s := api.Sent{Number: m.first + int64(len(m.sent)), Size: r.Int64N(1500), Probe: r.IntN(5) == 0, Told: r.Int64N(9) - 1}
	if n := len(m.sent); n > 0 {
		s.Time = m.sent[n-1].Time
	}
	s.Time = min(s.Time+int64(r.IntN(3)), api.MaxTime)
	s.Counted = r.IntN(10) >= d.bare
	s.Eliciting = s.Counted && r.IntN(4) > 0
	for range r.IntN(3) {
		s.Frames = append(s.Frames, rich(r.Int64N(50)).Frames[r.IntN(4)])
	}
	switch r.IntN(120) {
	case 0:
		s.Number += int64(r.IntN(3)) - 1
	case 1:
		s.Time += int64(r.IntN(5)) - 4
	case 2:
		s.Time = []int64{-1, 0, api.MaxTime + 1, math.MinInt64, math.MaxInt64}[r.IntN(5)]
	case 3:
		s.Size = []int64{-1, 0, 65535, 65536, math.MinInt64, math.MaxInt64}[r.IntN(6)]
	case 4:
		s.Eliciting = true
	case 5:
		s.Number, s.Time, s.Size = someNumber(r, m, d.recent), s.Time-r.Int64N(2), []int64{0, 65536}[r.IntN(2)]
	}
	return s
}

func someStep(r *rand.Rand, m *reading, d mood) step {
	s := step{call: d.calls[r.IntN(len(d.calls))]}
	if r.IntN(1500) == 0 {
		s.call = 'D'
	}
	switch s.call {
	case 'P':
		s.packet = somePacket(r, m, d)
	case 'A':
		s.runs = someRuns(r, m, d)
	case 'L':
		for range r.IntN(d.most + 1) {
			s.numbers = append(s.numbers, someNumber(r, m, d.recent))
		}
	}
	return s
}

// someFirst is an ordinary one, or one so near the last number that it is met.
func someFirst(r *rand.Rand) int64 {
	return []int64{0, 0, 5, r.Int64N(1 << 40), api.MaxNumber - r.Int64N(300)}[r.IntN(5)]
}

// met counts how often each kind of case was met.
type met struct {
	fates [isDropped + 1]int // packets that were answered, by what became of them
	errs  map[api.Errno]int
	gone  int // acknowledgements that took out nothing
	cut   int // runs that ACKED let go
}

func (k *met) see(m *reading, s step, answer []api.Sent, err api.Errno) {
	k.errs[err]++
	for _, p := range answer {
		k.fates[m.fate[p.Number-m.first]]++
	}
	if s.call == 'A' && err == api.OK && len(s.runs) > 0 {
		if len(answer) == 0 {
			k.gone++
		}
		for _, x := range s.runs {
			if !m.acked[x.Lo-m.first] {
				k.cut++
			}
		}
	}
}

// enough fails if a kind of case was met too seldom.
func (k *met) enough(t *testing.T) {
	t.Helper()
	counts := []int{k.fates[isAcked], k.fates[isLost], k.fates[isForgotten], k.fates[isDropped], k.gone, k.cut}
	for _, e := range []api.Errno{api.OK, api.ErrArg, api.ErrOver, api.ErrLedgerNever, api.ErrLedgerOrder, api.ErrLedgerLast} {
		counts = append(counts, k.errs[e])
	}
	for _, n := range counts {
		if n < 100 {
			t.Errorf("a kind of case was met %d times alone: %+v", n, *k)
		}
	}
}

// agrees fails if a ledger isn't what the reading says.
func agrees(t *testing.T, r *rand.Rand, l *Ledger, m *reading, recent int) {
	t.Helper()
	views(t, "P13.7: against a second reading", l, m.view())
	next, err := m.next()
	nexts(t, "P13.2: against a second reading", l, next, err)
	kept, waiting, _ := m.kept()
	equals(t, "P13.6: Kept, against a second reading", slices.Collect(l.Kept()), kept)
	n := r.IntN(7) - 1
	if first := waiting[:min(max(n, 0), len(waiting))]; len(l.Oldest(n)) != len(first) || len(first) > 0 && !reflect.DeepEqual(l.Oldest(n), first) {
		t.Errorf("P13.6: against a second reading: Oldest(%d) = %d, want %d", n, numbers(l.Oldest(n)), numbers(first))
	}
	for range 5 {
		lo := someNumber(r, m, recent)
		hi := lo + int64(r.IntN(6)) - 1
		told(t, "P13.6: against a second reading", l, lo, hi, m.told(lo, hi))
	}
}

func TestAgainstASecondReading(t *testing.T) {
	r := rand.New(rand.NewPCG(13, 1))
	k := met{errs: map[api.Errno]int{}}
	for round := range 60 {
		first, d := someFirst(r), moods[round%len(moods)]
		l, m := made(t, first), newReading(first)
		for i := range 100 + r.IntN(1500) {
			s := someStep(r, m, d)
			got, err := play(l, s)
			want, wantErr := m.play(s)
			if err != wantErr || !reflect.DeepEqual(got, want) {
				t.Fatalf("P13.3 to P13.5: against a second reading: %+v answers %+v, %d, want %+v, %d", s, got, err, want, wantErr)
			}
			if i%7 == 0 {
				agrees(t, r, l, m, d.recent)
			}
			if t.Failed() {
				t.Fatalf("New(%d), step %d: behind %+v", first, i, s)
			}
			if k.see(m, s, got, err); m.closed && r.IntN(12) == 0 {
				break
			}
		}
		if got := l.acked.Runs(); !slices.Equal(got, m.runs()) {
			t.Fatalf("P13.4: against a second reading: ACKED is %d, want %d", got, m.runs())
		}
	}
	k.enough(t)
}

// What follows: each Counted packet is answered just once, or it is kept; so many are kept at most, and so many runs.
func TestAnsweredJustOnce(t *testing.T) {
	r := rand.New(rand.NewPCG(13, 2))
	answers := 0
	for round := range 80 {
		first, d := someFirst(r), moods[round%len(moods)]
		l, m := made(t, first), newReading(first)
		often, counted := map[int64]int{}, 0
		for range 100 + r.IntN(1500) {
			s := someStep(r, m, d)
			answer, err := play(l, s)
			m.play(s)
			if s.call == 'P' && err == api.OK && s.packet.Counted {
				counted++
			}
			for _, p := range answer {
				often[p.Number]++
				answers++
			}
			if v := l.View(); v.Kept > api.MaxSent || l.acked.Len() > api.MaxSent || v.Kept+len(often) != counted {
				t.Fatalf("What follows: %d are kept, %d runs, %d answered, of %d that were Counted", v.Kept, l.acked.Len(), len(often), counted)
			}
		}
		for s := range l.Kept() {
			often[s.Number]++
		}
		for number, n := range often {
			if n != 1 {
				t.Fatalf("What follows: %d was answered, or is kept, %d times", number, n)
			}
		}
		if len(often) != counted {
			t.Fatalf("What follows: %d were answered or are kept, of %d", len(often), counted)
		}
	}
	if answers < 10000 {
		t.Errorf("%d answers: too few", answers)
	}
}

// What follows: a ledger's memory is bounded, however long it goes on.
func TestMemoryIsBounded(t *testing.T) {
	l := made(t, 0)
	for x := range int64(100000) {
		l.Add(asking(x, x))
		if x%2 == 0 {
			l.Ack(api.Run{Lo: x, Hi: x})
		}
	}
	if v := l.View(); v.Kept != api.MaxSent || l.acked.Len() != api.MaxSent || len(l.kept) != api.MaxSent || cap(l.kept) > 4*api.MaxSent {
		t.Errorf("What follows: %d are kept, in a list of %d, with %d runs", v.Kept, cap(l.kept), l.acked.Len())
	}
}

// Ledgers that were told the same answer the same (R4).
func TestAlikeAnswerAlike(t *testing.T) {
	r := rand.New(rand.NewPCG(13, 3))
	for round := range 40 {
		first, d := someFirst(r), moods[round%len(moods)]
		a, b, m := made(t, first), made(t, first), newReading(first)
		for range 1 + r.IntN(400) {
			s := someStep(r, m, d)
			m.play(s)
			got, err := play(a, s)
			look(a)
			if again, errAgain := play(b, s); err != errAgain || !reflect.DeepEqual(got, again) {
				t.Fatalf("R4: %+v answers %+v, %d, and again %+v, %d", s, got, err, again, errAgain)
			}
		}
		same(t, "R4: of two that were told the same", b, look(a))
	}
}
