package wheel

import (
	"cmp"
	"maps"
	"math/rand/v2"
	"slices"
	"testing"

	"portage/api"
)

// A model is a second reading of the chapter's words: a clock, and of each number its time.
type model struct {
	clock int64
	at    map[int]int64
}

func newModel(now int64) *model {
	return &model{clock: min(max(0, now), 1<<50), at: map[int]int64{}}
}

func (m *model) arm(id int, at int64) api.Errno {
	if id < 0 || id > 4095 || at < 0 || at > 1<<62-1 {
		return api.ErrArg
	}
	m.at[id] = at
	return api.OK
}

func (m *model) cancel(id int) api.Errno {
	if _, there := m.at[id]; !there {
		return api.ErrNone
	}
	delete(m.at, id)
	return api.OK
}

func (m *model) list() []timer {
	var l []timer
	for id, at := range m.at {
		l = append(l, timer{id, at})
	}
	slices.SortFunc(l, func(a, b timer) int {
		if a.at != b.at {
			return cmp.Compare(a.at, b.at)
		}
		return a.id - b.id
	})
	return l
}

func (m *model) advance(now int64) []int {
	if now > m.clock {
		m.clock = min(now, 1<<50)
	}
	var ids []int
	for _, x := range m.list() {
		if x.at <= m.clock {
			ids = append(ids, x.id)
			delete(m.at, x.id)
		}
	}
	return ids
}

func (m *model) next() int64 {
	next := int64(1) << 62
	for _, at := range m.at {
		next = min(next, at)
	}
	return next
}

// placeOf is a second reading of where a deadline lies: a ring turns 64 times as slowly as the one below, and what the clock has
// passed lies with what is due now.
func placeOf(clock, at int64) (ring, slot int) {
	at = max(at, clock)
	for at/64 != clock/64 {
		at, clock = at/64, clock/64
		ring++
	}
	return ring, int(at % 64)
}

// sound fails if what is kept is not what the held deadlines need, each where the clock says.
func sound(t *testing.T, say string, w *Wheel) {
	t.Helper()
	found := map[int]*node{}
	for i := range w.rings {
		r := &w.rings[i]
		for s, first := range r.slots {
			if (first != nil) != (r.full>>s&1 == 1) {
				t.Fatalf("%s: ring %d, slot %d: its bit tells otherwise", say, i, s)
			}
			var before *node
			for n := first; n != nil; n = n.behind {
				ring, slot := placeOf(w.clock, n.at)
				if ring != i || slot != s || n.before != before || found[n.id] != nil {
					t.Fatalf("%s: ring %d, slot %d: %d at %d lies wrong, or twice", say, i, s, n.id, n.at)
				}
				found[n.id], before = n, n
			}
		}
	}
	if !maps.Equal(found, w.held) {
		t.Fatalf("%s: %d lie in slots, %d are held", say, len(found), len(w.held))
	}
}

// A source makes times and numbers, the same at every run.
type source struct {
	*rand.Rand
	ids int // so many numbers are played with
}

func newSource(seed uint64) source {
	s := source{rand.New(rand.NewPCG(seed, 7)), 0}
	s.ids = []int{1, 3, 10, 100, 4096}[s.IntN(5)]
	return s
}

func (s source) id() int {
	if s.IntN(40) == 0 {
		return []int{-1, 4096, 4095, 0, 1 << 40, -4096}[s.IntN(6)]
	}
	return s.IntN(s.ids)
}

// near makes a time not far from one, or at a border above it.
func (s source) near(from int64) int64 {
	switch s.IntN(6) {
	case 0:
		return from + s.Int64N(4)
	case 1:
		return from + s.Int64N(200)
	case 2:
		return from + s.Int64N(1<<s.IntN(51))
	case 3:
		width := 6 * (1 + s.IntN(8))
		return (from>>width+1+s.Int64N(3))<<width + s.Int64N(3) - 1
	case 4:
		return from
	default:
		return s.Int64N(from + 1)
	}
}

func (s source) at(clock int64) int64 {
	switch s.IntN(40) {
	case 0:
		return []int64{-1, api.Never, api.Never + 1, -1 << 62}[s.IntN(4)]
	case 1:
		return []int64{0, api.MaxTime, api.MaxTime + 1, api.Never - 1}[s.IntN(4)]
	case 2:
		return s.Int64N(api.Never)
	default:
		return s.near(clock)
	}
}

// now makes a time for Advance, which doesn't leap to the end too soon.
func (s source) now(m *model) int64 {
	next := min(m.next(), api.MaxTime)
	switch s.IntN(8) {
	case 0:
		return next
	case 1:
		return next - 1
	case 2:
		return next + 1
	case 3:
		return m.clock
	case 4:
		return m.clock - s.Int64N(100)
	case 5:
		return m.clock + s.Int64N(1<<s.IntN(40))
	default:
		return m.clock + s.Int64N(300)
	}
}

// A player does the same with a wheel and with the model.
type player struct {
	t *testing.T
	source
	w *Wheel
	m *model
}

func newPlayer(t *testing.T, seed uint64) *player {
	s := newSource(seed)
	now := []int64{0, -1, s.Int64N(1 << 50), 1<<50 - s.Int64N(100), 1 << 60, s.Int64N(5000)}[s.IntN(6)]
	return &player{t, s, New(now), newModel(now)}
}

func (p *player) step() {
	switch p.IntN(10) {
	case 0, 1, 2, 3, 4:
		id, at := p.id(), p.at(p.m.clock)
		if got, want := p.w.Arm(id, at), p.m.arm(id, at); got != want {
			p.t.Fatalf("P7.2: Arm(%d, %d) = %d, want %d", id, at, got, want)
		}
	case 5:
		id := p.id()
		if got, want := p.w.Cancel(id), p.m.cancel(id); got != want {
			p.t.Fatalf("P7.3: Cancel(%d) = %d, want %d", id, got, want)
		}
	default:
		now := p.now(p.m)
		if got, want := p.w.Advance(now), p.m.advance(now); !slices.Equal(got, want) {
			p.t.Fatalf("P7.5: Advance(%d) = %d, want %d", now, got, want)
		}
	}
}

func (p *player) look() {
	p.t.Helper()
	id := p.id()
	at, err := p.w.When(id)
	want, there := p.m.at[id]
	if at != want || (err == api.OK) != there || !there && err != api.ErrNone {
		p.t.Fatalf("P7.4: When(%d) = %d, %d, want %d", id, at, err, want)
	}
	if p.w.Next() != p.m.next() || p.w.Now() != p.m.clock || p.w.Len() != len(p.m.at) {
		p.t.Fatalf("P7.4: Next, Now, Len = %d, %d, %d, want %d, %d, %d", p.w.Next(), p.w.Now(), p.w.Len(), p.m.next(), p.m.clock, len(p.m.at))
	}
}

func TestAgainstTheModel(t *testing.T) {
	for seed := range uint64(400) {
		p := newPlayer(t, seed)
		for i := range 300 {
			p.step()
			p.look()
			if i%25 == 0 {
				holds(t, "played", p.w, p.m.clock, p.m.list()...)
			}
		}
	}
}

// Many deadlines at a time, which go out by and by.
func TestManyAgainstTheModel(t *testing.T) {
	for seed := range uint64(20) {
		p := newPlayer(t, seed)
		p.ids = 4096
		for range 3000 {
			id, at := p.id(), p.at(p.m.clock)
			p.w.Arm(id, at)
			p.m.arm(id, at)
		}
		holds(t, "many", p.w, p.m.clock, p.m.list()...)
		for range 60 {
			p.step()
			p.look()
		}
		holds(t, "many, played with", p.w, p.m.clock, p.m.list()...)
	}
}

func TestStepsDoNotMatterPlayed(t *testing.T) {
	for seed := range uint64(400) {
		once, twice := newPlayer(t, seed), newPlayer(t, seed)
		for range 80 {
			once.step()
			twice.step()
		}
		end := once.near(once.m.clock)
		var got []int
		for range 1 + once.IntN(6) {
			got = append(got, twice.w.Advance(min(once.near(twice.w.Now()), end))...)
		}
		got = append(got, twice.w.Advance(end)...)
		if want := once.w.Advance(end); !slices.Equal(got, want) {
			t.Fatalf("P7.7: to %d in steps: %d, at once %d", end, got, want)
		}
		holds(t, "P7.7: in steps", twice.w, once.w.Now(), told(once.w)...)
	}
}

func TestNextTellsWhenPlayed(t *testing.T) {
	for seed := range uint64(300) {
		p := newPlayer(t, seed)
		for range 60 {
			p.step()
		}
		for p.w.Next() <= api.MaxTime {
			at, l := p.w.Next(), told(p.w)
			for _, below := range []int64{p.w.Now(), p.w.Now() + (at-p.w.Now())/2, at - 1} {
				if below < at && below >= p.w.Now() {
					due(t, p.w, below)
				}
			}
			if got := p.w.Advance(at); len(got) == 0 || got[0] != l[0].id {
				t.Fatalf("P7.8: Advance(%d) = %d, ahead of all was %d", at, got, l[0])
			}
		}
		due(t, p.w, api.Never)
	}
}

func TestArmingTwicePlayed(t *testing.T) {
	for seed := range uint64(300) {
		once, twice := newPlayer(t, seed), newPlayer(t, seed)
		for range 60 {
			once.step()
			twice.step()
		}
		id, at := once.IntN(4096), once.near(once.w.Now())
		once.w.Arm(id, at)
		twice.w.Arm(id, once.near(once.w.Now()))
		twice.w.Arm(id, at)
		holds(t, "P7.9: armed twice", twice.w, once.w.Now(), told(once.w)...)
		if _, there := once.w.When(4000); there == api.ErrNone {
			twice.w.Arm(4000, once.near(once.w.Now()))
			twice.w.Cancel(4000)
		}
		holds(t, "P7.9: armed and cancelled", twice.w, once.w.Now(), told(once.w)...)
		end := once.near(once.w.Now())
		due(t, twice.w, end, once.w.Advance(end)...)
	}
}

// Wheels that are played with in turns know nothing of one another.
func TestWheelsInTurns(t *testing.T) {
	var l []*player
	for seed := range uint64(12) {
		l = append(l, newPlayer(t, seed))
	}
	for range 150 {
		for _, p := range l {
			p.step()
			p.look()
		}
	}
	for _, p := range l {
		holds(t, "P7.1, R4: in turns", p.w, p.m.clock, p.m.list()...)
	}
}

// What comes down from a slow ring is what lay in the slot that the clock came to stand in: no step hangs on the others.
func TestOnlyReachedSlotsComeDown(t *testing.T) {
	for seed := range uint64(300) {
		p := newPlayer(t, seed)
		for range 80 {
			p.step()
		}
		from := p.w.Now()
		to := min(p.near(from), api.MaxTime)
		if to <= from {
			continue
		}
		top, slot := placeOf(from, to)
		for _, n := range p.w.turn(to) {
			if ring, s := placeOf(from, n.at); n.at > to && (ring != top || s != slot) {
				t.Fatalf("from %d to %d: %d at %d is moved, and need not be", from, to, n.id, n.at)
			}
		}
	}
}

// What was held once leaves nothing behind.
func TestNothingIsLeftBehind(t *testing.T) {
	for seed := range uint64(50) {
		p := newPlayer(t, seed)
		for range 200 {
			p.step()
		}
		p.w.Advance(api.MaxTime)
		for _, x := range told(p.w) {
			p.w.Cancel(x.id)
		}
		holds(t, "emptied", p.w, api.MaxTime)
	}
}
