package credit

import (
	"fmt"
	"math"
	"math/big"
	"math/rand/v2"
	"testing"

	"portage/api"
)

// A step is a call that was made, by its name's first letter: of an Out Use, Raise, Blocked, Again; of an In Take, Consume, Update, Again.
type step struct {
	call byte
	n    int64
}

// all is so many, in numbers of any size.
func all(l []int64) *big.Int {
	sum := new(big.Int)
	for _, n := range l {
		sum.Add(sum, big.NewInt(n))
	}
	return sum
}

func above(a, b *big.Int) bool { return a.Cmp(b) > 0 }

// An outReading is a second reading of the chapter's words on an Out: what was told to it, and what follows from that.
type outReading struct {
	limits []int64 // the first, and each to which it was raised
	uses   []int64
	told   []int64 // the limit told, or none
}

func (m *outReading) limit() int64 { return m.limits[len(m.limits)-1] }

func (m *outReading) room() *big.Int {
	return new(big.Int).Sub(big.NewInt(m.limit()), all(m.uses))
}

func (m *outReading) wants() bool {
	return m.room().Sign() == 0 && (len(m.told) == 0 || m.told[0] != m.limit())
}

func (m *outReading) play(s step) string {
	switch s.call {
	case 'U':
		if s.n < 0 {
			return fmt.Sprint(api.ErrArg)
		}
		if above(big.NewInt(s.n), m.room()) {
			return fmt.Sprint(api.ErrCreditLimit)
		}
		m.uses = append(m.uses, s.n)
		return fmt.Sprint(api.OK)
	case 'R':
		limit := s.n
		if limit > api.MaxNumber {
			limit = api.MaxNumber
		}
		if limit > m.limit() {
			m.limits = append(m.limits, limit)
			return "true"
		}
		return "false"
	case 'B':
		if m.wants() {
			m.told = []int64{m.limit()}
			return fmt.Sprint(m.limit(), true)
		}
		return fmt.Sprint(0, false)
	case 'A':
		if len(m.told) > 0 && m.told[0] == s.n {
			m.told = nil
		}
	}
	return ""
}

func (m *outReading) view() string {
	told := int64(-1)
	if len(m.told) > 0 {
		told = m.told[0]
	}
	return fmt.Sprint(m.limit(), all(m.uses), told, m.room(), m.wants())
}

func playOut(o *Out, s step) string {
	switch s.call {
	case 'U':
		return fmt.Sprint(o.Use(s.n))
	case 'R':
		return fmt.Sprint(o.Raise(s.n))
	case 'B':
		return fmt.Sprint(o.Blocked())
	case 'A':
		o.Again(s.n)
	}
	return ""
}

func viewOut(o *Out) string {
	v := o.View()
	return fmt.Sprint(v.Limit, v.Used, v.Told, o.Room(), o.Wants())
}

// An inReading is a second reading of the chapter's words on an In.
type inReading struct {
	window   int64
	tells    []int64 // the limits of which Update told
	takes    []int64
	consumes []int64
	again    bool
}

func (m *inReading) limit() int64 {
	if len(m.tells) == 0 {
		return m.window
	}
	return m.tells[len(m.tells)-1]
}

func (m *inReading) next() *big.Int {
	next := all(append([]int64{m.window}, m.consumes...))
	if most := big.NewInt(api.MaxNumber); above(next, most) {
		return most
	}
	return next
}

// wants holds twice the rise against the window: half of it, rounded up, is the least number of which the double isn't below it.
func (m *inReading) wants() bool {
	rise := new(big.Int).Sub(m.next(), big.NewInt(m.limit()))
	twice := new(big.Int).Add(rise, rise)
	return m.again || rise.Sign() > 0 && !above(big.NewInt(m.window), twice)
}

func (m *inReading) play(s step) string {
	switch s.call {
	case 'T':
		if s.n < 0 {
			return fmt.Sprint(api.ErrArg)
		}
		if above(all(append([]int64{s.n}, m.takes...)), big.NewInt(m.limit())) {
			return fmt.Sprint(api.ErrCreditLimit)
		}
		m.takes = append(m.takes, s.n)
		return fmt.Sprint(api.OK)
	case 'C':
		if s.n < 0 || above(all(append([]int64{s.n}, m.consumes...)), all(m.takes)) {
			return fmt.Sprint(api.ErrArg)
		}
		m.consumes = append(m.consumes, s.n)
		return fmt.Sprint(api.OK)
	case 'U':
		if m.wants() {
			m.tells, m.again = append(m.tells, m.next().Int64()), false
			return fmt.Sprint(m.limit(), true)
		}
		return fmt.Sprint(0, false)
	case 'A':
		if len(m.tells) > 0 && m.limit() == s.n {
			m.again = true
		}
	}
	return ""
}

func (m *inReading) view() string {
	return fmt.Sprint(m.limit(), all(m.takes), all(m.consumes), m.window, m.wants())
}

func playIn(i *In, s step) string {
	switch s.call {
	case 'T':
		return fmt.Sprint(i.Take(s.n))
	case 'C':
		return fmt.Sprint(i.Consume(s.n))
	case 'U':
		return fmt.Sprint(i.Update())
	case 'A':
		i.Again(s.n)
	}
	return ""
}

func viewIn(i *In) string {
	v := i.View()
	return fmt.Sprint(v.Limit, v.Taken, v.Consumed, v.Window, i.Wants())
}

// some is one of these.
func some(r *rand.Rand, l ...int64) int64 { return l[r.IntN(len(l))] }

// edge is a number at an edge of what any number may be.
func edge(r *rand.Rand) int64 {
	return some(r, math.MinInt64, math.MinInt64+1, -api.MaxNumber, -1, 0, 1, api.MaxNumber-1, api.MaxNumber, api.MaxNumber+1, math.MaxInt64-1, math.MaxInt64)
}

// part is a piece of what there is: mostly a small one, or all of it, and now and then one more.
func part(r *rand.Rand, n int64) int64 {
	switch r.IntN(8) {
	case 0:
		return edge(r)
	case 1:
		return n + 1
	case 2:
		return max(n-1, 0)
	case 3, 4:
		return n
	}
	return r.Int64N(n+1) >> r.IntN(4)
}

// start is a limit or a window.
func start(r *rand.Rand) int64 {
	return some(r, 0, 1, 2, 3, 4, 5, r.Int64N(30), r.Int64N(100000), api.MaxNumber/4, api.MaxNumber/3, api.MaxNumber/2, api.MaxNumber/2+1, api.MaxNumber-1, api.MaxNumber, r.Int64N(api.MaxNumber))
}

func outStep(r *rand.Rand, v api.OutView) step {
	s := step{call: "UUURBBAA"[r.IntN(8)]}
	switch s.call {
	case 'U':
		s.n = part(r, v.Limit-v.Used)
	case 'R':
		s.n = some(r, edge(r), v.Limit-1, v.Limit, v.Limit+1, v.Limit+r.Int64N(20), v.Limit+r.Int64N(1<<60))
	case 'A':
		s.n = some(r, edge(r), v.Limit, v.Told, v.Told, v.Used)
	}
	return s
}

func inStep(r *rand.Rand, v api.InView, tells []int64) step {
	s := step{call: "TTTCCCUUA"[r.IntN(9)]}
	switch s.call {
	case 'T':
		s.n = part(r, v.Limit-v.Taken)
	case 'C':
		s.n = part(r, v.Taken-v.Consumed)
		if r.IntN(3) == 0 {
			// Just at, or beside, half a window behind what was told.
			s.n = v.Limit - v.Consumed - v.Window/2 + int64(r.IntN(4)) - 2
		}
	case 'A':
		s.n = some(r, edge(r), v.Limit, v.Limit, v.Limit+1, v.Window, v.Taken, v.Consumed)
		if len(tells) > 0 && r.IntN(3) == 0 {
			s.n = tells[r.IntN(len(tells))]
		}
	}
	return s
}

// met counts how often each kind of case was met.
type met map[string]int

func (k met) see(kind string, is bool) {
	if is {
		k[kind]++
	}
}

func (k met) enough(t *testing.T, kinds ...string) {
	t.Helper()
	for _, kind := range kinds {
		if k[kind] < 100 {
			t.Errorf("%s: met %d times alone", kind, k[kind])
		}
	}
}

func TestOutAgainstASecondReading(t *testing.T) {
	r := rand.New(rand.NewPCG(17, 1))
	k := met{}
	for range 6000 {
		limit := start(r)
		o, m := madeOut(t, limit), &outReading{limits: []int64{limit}}
		var steps []step
		for range 1 + r.IntN(40) {
			ahead := o.View()
			s := outStep(r, ahead)
			steps = append(steps, s)
			got, want := playOut(o, s), m.play(s)
			if got != want || viewOut(o) != m.view() {
				t.Fatalf("P17.1 to P17.5: against a second reading: NewOut(%d), %v: %s, %s, want %s, %s", limit, steps, got, viewOut(o), want, m.view())
			}
			k[string(s.call)+" "+got]++
			k.see("told", s.call == 'B' && o.View().Told != ahead.Told)
			k.see("told another", s.call == 'B' && ahead.Told >= 0 && o.View().Told != ahead.Told)
			k.see("again", s.call == 'A' && o.View().Told != ahead.Told)
			k.see("again of an older one", s.call == 'A' && o.View().Told != ahead.Told && ahead.Told != ahead.Limit)
			k.see("no room, not told again", s.call == 'B' && got == "0 false" && o.Room() == 0)
			k.see("at MaxNumber", ahead.Limit == api.MaxNumber && ahead.Used == api.MaxNumber)
		}
	}
	k.enough(t, "U "+api.OK.Error(), "U "+api.ErrArg.Error(), "U "+api.ErrCreditLimit.Error(), "R true", "R false",
		"told", "told another", "again", "again of an older one", "no room, not told again", "at MaxNumber")
}

func TestInAgainstASecondReading(t *testing.T) {
	r := rand.New(rand.NewPCG(17, 2))
	k := met{}
	for range 8000 {
		window := start(r)
		i, m := madeIn(t, window), &inReading{window: window}
		var steps []step
		for range 1 + r.IntN(60) {
			ahead := i.View()
			wanted := i.Wants()
			s := inStep(r, ahead, m.tells)
			steps = append(steps, s)
			got, want := playIn(i, s), m.play(s)
			if got != want || viewIn(i) != m.view() {
				t.Fatalf("P17.6 to P17.11: against a second reading: NewIn(%d), %v: %s, %s, want %s, %s", window, steps, got, viewIn(i), want, m.view())
			}
			k[string(s.call)+" "+got]++
			rise := i.View().Limit - ahead.Limit
			k.see("just half", s.call == 'U' && rise > 0 && rise == window-window/2)
			k.see("just half of an odd window", s.call == 'U' && rise > 1 && window%2 == 1 && rise == window-window/2)
			k.see("the same again", s.call == 'U' && wanted && rise == 0)
			k.see("a little more again", s.call == 'U' && rise > 0 && rise < window-window/2)
			k.see("to MaxNumber", s.call == 'U' && rise > 0 && i.View().Limit == api.MaxNumber)
			k.see("again of an older one", s.call == 'A' && s.n != ahead.Limit && len(m.tells) > 0 && s.n >= m.tells[0] && !wanted)
			k.see("again of the first", s.call == 'A' && s.n == window && len(m.tells) == 0)
			k.see("again", s.call == 'A' && i.Wants() && !wanted)
		}
	}
	k.enough(t, "T "+api.OK.Error(), "T "+api.ErrArg.Error(), "T "+api.ErrCreditLimit.Error(), "C "+api.OK.Error(), "C "+api.ErrArg.Error(), "U 0 false",
		"just half", "just half of an odd window", "the same again", "a little more again", "to MaxNumber",
		"again of an older one", "again of the first", "again")
}

// Every row of calls with small numbers, up to some length, against the second reading.
func TestEveryShortRow(t *testing.T) {
	outs := []step{{'U', 0}, {'U', 1}, {'U', 2}, {'U', -1}, {'R', 1}, {'R', 2}, {'R', 3}, {'B', 0}, {'A', -1}, {'A', 0}, {'A', 1}, {'A', 2}}
	ins := []step{{'T', 1}, {'T', 2}, {'T', -1}, {'C', 1}, {'C', 2}, {'C', -1}, {'U', 0}, {'A', 1}, {'A', 2}, {'A', 3}, {'A', 4}}
	for first := range int64(4) {
		rows(outs, 4, nil, func(row []step) {
			o, m := madeOut(t, first), &outReading{limits: []int64{first}}
			for _, s := range row {
				if got, want := playOut(o, s), m.play(s); got != want || viewOut(o) != m.view() {
					t.Fatalf("P17.1 to P17.5: NewOut(%d), %v: %s, %s, want %s, %s", first, row, got, viewOut(o), want, m.view())
				}
			}
		})
		rows(ins, 4, []step{{'T', 1}, {'C', 1}}, func(row []step) {
			i, m := madeIn(t, first), &inReading{window: first}
			for _, s := range row {
				if got, want := playIn(i, s), m.play(s); got != want || viewIn(i) != m.view() {
					t.Fatalf("P17.6 to P17.11: NewIn(%d), %v: %s, %s, want %s, %s", first, row, got, viewIn(i), want, m.view())
				}
			}
		})
	}
}

// rows tells each row of so many of these steps, behind those with which all begin.
func rows(l []step, long int, begin []step, tell func([]step)) {
	if long == 0 {
		tell(begin)
		return
	}
	for _, s := range l {
		rows(l, long-1, append(begin[:len(begin):len(begin)], s), tell)
	}
}

// Two that were told the same answer the same, also where one of them was looked at between, and was asked what it refuses (R2, R4).
func TestAlikeAnswerAlike(t *testing.T) {
	r := rand.New(rand.NewPCG(17, 3))
	for range 1500 {
		n := start(r)
		o, p := madeOut(t, n), madeOut(t, n)
		i, j := madeIn(t, n), madeIn(t, n)
		for range 40 {
			o.Use(-1)
			o.Use(math.MaxInt64)
			o.Raise(-1)
			i.Take(-1)
			i.Take(math.MaxInt64)
			i.Consume(-1)
			i.Consume(math.MaxInt64)
			s, c := outStep(r, o.View()), inStep(r, i.View(), nil)
			if got, again := playOut(o, s), playOut(p, s); got != again {
				t.Fatalf("R4: an Out's %c answers %q, and again %q", s.call, got, again)
			}
			if got, again := playIn(i, c), playIn(j, c); got != again {
				t.Fatalf("R4: an In's %c answers %q, and again %q", c.call, got, again)
			}
		}
		if viewOut(o) != viewOut(p) || viewIn(i) != viewIn(j) {
			t.Fatalf("R4: of two that were told the same: %s, %s; %s, %s", viewOut(o), viewOut(p), viewIn(i), viewIn(j))
		}
	}
}
