package seen

import (
	"maps"
	"math/rand/v2"
	"reflect"
	"slices"
	"testing"

	"portage/api"
)

// A model is a second reading of the chapter's words: all that was ever taken, and numbers one by one.
type model struct {
	space          int
	delay, clock   int64
	taken          map[int64]bool // of which Take said true, from the beginning on
	floor, largest int64
	came           int64
	capable, met   int64
	any, waits     bool
	deadline       int64 // counts while something waits
	since          int64 // when the first that waits was taken
	how            int   // how many wait
}

func newModel(space int, delay int64) *model {
	return &model{space: space, delay: delay, taken: map[int64]bool{}, floor: -1, largest: -1}
}

func (m *model) tick(now int64) {
	if now > m.clock {
		m.clock = now
	}
	if m.clock > 1<<50 {
		m.clock = 1 << 50
	}
}

// runs is the numbers above the floor that were taken, as runs.
func (m *model) runs() []api.Run {
	var l []api.Run
	for _, x := range slices.Sorted(maps.Keys(m.taken)) {
		switch {
		case x <= m.floor:
		case len(l) > 0 && l[len(l)-1].Hi+1 == x:
			l[len(l)-1].Hi = x
		default:
			l = append(l, api.Run{Lo: x, Hi: x})
		}
	}
	return l
}

func (m *model) fresh(number int64) bool {
	return number >= 0 && number <= 1<<62-1 && number > m.floor && !m.taken[number]
}

func (m *model) take(now, number int64, eliciting bool, mark int) bool {
	m.tick(now)
	if !m.fresh(number) {
		return false
	}
	ahead := m.largest
	if number > ahead {
		m.largest, m.came = number, m.clock
	}
	switch mark {
	case 1:
		m.capable++
	case 2:
		m.met++
	}
	m.taken[number] = true
	if l := m.runs(); len(l) == 33 {
		m.floor = l[0].Hi
	}
	m.any = true
	if !eliciting {
		return true
	}
	at := m.clock + m.delay
	hole := ahead >= 0 && number >= ahead+2
	if m.space < 2 || m.waits || number < ahead || hole || mark == 2 {
		at = m.clock
	}
	if !m.waits {
		m.deadline, m.since, m.how = at, m.clock, 0
	}
	m.deadline = min(m.deadline, at)
	m.waits = true
	m.how++
	return true
}

func (m *model) ack(now int64, exp int) (api.Frame, bool) {
	m.tick(now)
	l := m.runs()
	if len(l) == 0 {
		return api.Frame{}, false
	}
	slices.Reverse(l)
	unit := int64(1)
	for range min(exp, 20) {
		unit *= 2
	}
	m.waits, m.any = false, false
	return api.Frame{
		Kind: 2, Runs: l, Delay: (m.clock - m.came) / unit,
		Marks: m.capable > 0 || m.met > 0, Counts: [3]int64{m.capable, 0, m.met},
	}, true
}

func (m *model) forget(number int64) {
	if number > m.largest {
		number = m.largest
	}
	if number > m.floor {
		m.floor = number
	}
	if len(m.runs()) == 0 {
		m.waits, m.any = false, false
	}
}

func (m *model) state() state {
	d := int64(1 << 62)
	if m.waits {
		d = m.deadline
	}
	return state{d, m.any, m.largest, m.floor, m.runs()}
}

// A player plays one and the model side by side, by numbers that lie as those of a road do.
type player struct {
	t    *testing.T
	r    *rand.Rand
	s    *Seen
	m    *model
	next int64
	now  int64
	most int // how far a number may lie off
}

func (p *player) number() int64 {
	switch p.r.IntN(12) {
	case 0:
		return p.next - p.r.Int64N(int64(p.most)) // it was put off, or doubled
	case 1:
		p.next += p.r.Int64N(4) // some are lost
	case 2:
		return p.m.floor + p.r.Int64N(5) - 2
	case 3:
		return p.m.largest + p.r.Int64N(3) - 1
	}
	p.next++
	return p.next - 1
}

func (p *player) time() int64 {
	if p.r.IntN(8) == 0 {
		return p.now - p.r.Int64N(300)
	}
	p.now += p.r.Int64N(60)
	return p.now
}

func (p *player) step() {
	switch k := p.r.IntN(40); {
	case k < 32:
		p.take()
	case k < 36:
		p.ack()
	case k < 39:
		p.forget(p.m.floor + p.r.Int64N(6) - 2)
	default:
		p.forget(p.m.largest - p.r.Int64N(20) + 3)
	}
	holds(p.t, "the model", p.s, p.m.state())
	p.soon()
}

func (p *player) take() {
	now, number, eliciting, mark := p.time(), p.number(), p.r.IntN(2) == 0, p.r.IntN(5)-1
	before := p.m.taken[number]
	fresh := p.s.Fresh(number)
	got, want := p.s.Take(now, number, eliciting, mark), p.m.take(now, number, eliciting, mark)
	if got != want {
		p.t.Errorf("P8.3: Take(%d, %d, %v, %d) = %v, want %v", now, number, eliciting, mark, got, want)
	}
	if got && before || got != fresh {
		p.t.Errorf("P8.8: Take(%d) = %v, Fresh ahead of it %v, taken ahead of it %v", number, got, fresh, before)
	}
}

func (p *player) ack() {
	now, exp := p.time(), p.r.IntN(30)-4
	f, is := p.s.Ack(now, exp)
	g, was := p.m.ack(now, exp)
	if is != was || !reflect.DeepEqual(f, g) {
		p.t.Errorf("P8.5: Ack(%d, %d) = %+v, %v, want %+v, %v", now, exp, f, is, g, was)
	}
	told := map[int64]bool{}
	for _, r := range f.Runs {
		for x := r.Lo; x <= r.Hi; x++ {
			told[x] = true
			if !p.m.taken[x] {
				p.t.Errorf("P8.9: %d is told, and has not come", x)
			}
		}
	}
	for x := range p.m.taken {
		if x > p.s.Floor() && !told[x] {
			p.t.Errorf("P8.9: %d has come, is above the floor %d, and isn't told", x, p.s.Floor())
		}
	}
}

func (p *player) forget(number int64) {
	p.s.Forget(number)
	p.m.forget(number)
}

// soon holds one to P8.10.
func (p *player) soon() {
	if n := len(p.s.Runs()); n > api.MaxRuns {
		p.t.Errorf("P8.10: %d runs", n)
	}
	if !p.m.waits {
		return
	}
	latest := p.m.since + p.m.delay
	if p.m.space != api.App || p.m.how > 1 {
		latest = min(latest, p.m.clock)
	}
	if d := p.s.Deadline(); d > latest {
		p.t.Errorf("P8.10: space %d, %d wait, the first since %d, delay %d, clock %d: deadline %d", p.m.space, p.m.how, p.m.since, p.m.delay, p.m.clock, d)
	}
}

func TestModel(t *testing.T) {
	for seed := uint64(0); seed < 300 && !t.Failed(); seed++ {
		r := rand.New(rand.NewPCG(seed, 8))
		space, delay := int(seed%3), []int64{0, 1, 40, 1000, api.MaxSpan}[r.IntN(5)]
		if seed%2 == 1 {
			space = api.App
		}
		p := &player{t: t, r: r, s: made(t, space, delay), m: newModel(space, delay), most: 1 + r.IntN(80)}
		p.next = []int64{0, 0, 5, 1 << 40, api.MaxNumber - 150}[r.IntN(5)]
		p.now = []int64{0, 0, 777, api.MaxTime - 4000}[r.IntN(4)]
		for range 300 {
			p.step()
		}
	}
}

// Numbers that lie anywhere make many runs: the bound is at work all the time.
func TestModelOfManyRuns(t *testing.T) {
	for seed := uint64(0); seed < 60 && !t.Failed(); seed++ {
		r := rand.New(rand.NewPCG(seed, 88))
		p := &player{t: t, r: r, s: made(t, api.App, 50), m: newModel(api.App, 50), most: 1}
		for i := range int64(400) {
			number := 2*i/3 + r.Int64N(90)
			now, eliciting := p.time(), r.IntN(3) == 0
			if got, want := p.s.Take(now, number, eliciting, 0), p.m.take(now, number, eliciting, 0); got != want {
				t.Errorf("P8.3: Take(%d) = %v, want %v", number, got, want)
			}
			holds(t, "the model of many runs", p.s, p.m.state())
			p.soon()
			if r.IntN(50) == 0 {
				p.ack()
			}
		}
	}
}

// Of each number Take says true once, however often it comes, in whatever order, and whatever is forgotten.
func TestOnce(t *testing.T) {
	for seed := uint64(0); seed < 40; seed++ {
		r := rand.New(rand.NewPCG(seed, 888))
		s := made(t, api.App, 50)
		said := [200]int{}
		for i := range int64(3000) {
			x := r.Int64N(200)
			if r.IntN(20) != 0 {
				x = min(i/16+r.Int64N(12), 199)
			}
			if s.Take(i, x, true, 0) {
				said[x]++
			}
			if r.IntN(40) == 0 {
				s.Forget(x - r.Int64N(30))
			}
			if r.IntN(10) == 0 {
				s.Ack(i, 0)
			}
		}
		for x, n := range said {
			if n > 1 {
				t.Errorf("P8.8: Take(%d) said true %d times", x, n)
			}
		}
	}
}
