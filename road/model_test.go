package road

import (
	"fmt"
	"math"
	"math/rand/v2"
	"slices"
	"testing"

	"portage/api"
)

// A source makes calls, the same at every run.
type source struct {
	*rand.Rand
	r     *Road // of which it takes the numbers and times that it calls with
	reach int64 // by how much a time lies ahead or behind
	full  bool  // is it to come to a full road?
}

func newSource(seed uint64, r *Road, reach int64, full bool) *source {
	return &source{rand.New(rand.NewPCG(seed, 22)), r, reach, full}
}

func (s *source) one(l ...int64) int64 { return l[s.IntN(len(l))] }

// now is a time for the clock: mostly one that goes on a little.
func (s *source) now() int64 {
	if s.IntN(60) == 0 {
		return s.one(math.MinInt64, -1, 0, 1, s.r.now-1, s.r.now-s.reach)
	}
	return s.r.now + s.Int64N(s.reach/8+1)
}

// at is a time to which one may be put off, or may not.
func (s *source) at() int64 {
	if s.IntN(30) == 0 {
		return s.one(math.MinInt64, -1, 0, api.MaxTime, api.MaxTime+1, api.Never-1, api.Never, math.MaxInt64)
	}
	return min(max(s.r.now-s.reach/4+s.Int64N(s.reach+1), 0), api.Never-1)
}

// id is a number, mostly of one that is under way.
func (s *source) id() int {
	if s.IntN(12) == 0 || len(s.r.places) == 0 {
		return int(s.one(-1, 0, int64(s.r.next), int64(s.r.next-1), int64(s.IntN(s.r.next+1)), math.MaxInt))
	}
	for range 20 {
		id := s.r.next - 1 - s.IntN(min(s.r.next, 3*len(s.r.places)))
		if _, there := s.r.places[id]; there {
			return id
		}
	}
	return s.r.next - 1
}

func (s *source) bytes() []byte {
	n := s.one(0, 1, 2, 7, 40)
	if s.IntN(100) == 0 {
		n = s.one(1200, api.MaxMTU, api.MaxMTU+1, api.MaxMTU+1)
	}
	b := make([]byte, n)
	for i := range b {
		b[i] = byte(s.Uint32())
	}
	return b
}

// step makes one call of both, and tells their answers.
func (s *source) step(m *reading) (call, got, want string, err api.Errno) {
	puts := 8
	if s.full {
		puts = 60
	}
	switch k := s.IntN(puts + 12); {
	case k < puts:
		now, to, b, mark := s.now(), int(s.one(0, 1)), s.bytes(), int(s.one(0, 1, 2))
		if s.IntN(40) == 0 {
			to = int(s.one(-1, 2, 0))
			mark = int(s.one(-1, 3, 0))
		}
		id, e := s.r.Put(now, to, b, mark)
		id2, e2 := m.Put(now, to, b, mark)
		return fmt.Sprintf("Put(%d, %d, %d bytes, %d)", now, to, len(b), mark), fmt.Sprint(id, int(e)), fmt.Sprint(id2, int(e2)), e
	case k < puts+1:
		id := s.id()
		e, e2 := s.r.Lose(id), m.Lose(id)
		return fmt.Sprintf("Lose(%d)", id), fmt.Sprint(int(e)), fmt.Sprint(int(e2)), e
	case k < puts+4:
		id, at := s.id(), s.at()
		e, e2 := s.r.Delay(id, at), m.Delay(id, at)
		return fmt.Sprintf("Delay(%d, %d)", id, at), fmt.Sprint(int(e)), fmt.Sprint(int(e2)), e
	case k < puts+7:
		id, at := s.id(), s.at()
		other, e := s.r.Double(id, at)
		other2, e2 := m.Double(id, at)
		return fmt.Sprintf("Double(%d, %d)", id, at), fmt.Sprint(other, int(e)), fmt.Sprint(other2, int(e2)), e
	case k < puts+9:
		id := s.id()
		e, e2 := s.r.Mark(id), m.Mark(id)
		return fmt.Sprintf("Mark(%d)", id), fmt.Sprint(int(e)), fmt.Sprint(int(e2)), e
	default:
		now := s.now()
		if s.full && s.IntN(20) > 0 {
			now = 0
		}
		return fmt.Sprintf("Take(%d)", now), tell(s.r.Take(now)), tell(m.Take(now)), api.OK
	}
}

// like holds a road to a reading.
func like(t *testing.T, call string, r *Road, m *reading) {
	t.Helper()
	if n, at := r.Len(), r.Next(); n != len(m.under) || at != m.Next() {
		t.Fatalf("W3: behind %s: Len, Next = %d, %d, want %d, %d", call, n, at, len(m.under), m.Next())
	}
	if r.now != m.clock || r.next != m.given {
		t.Fatalf("W1: behind %s the clock is %d, the next number %d, want %d, %d", call, r.now, r.next, m.clock, m.given)
	}
	if got, want := tell(slices.Collect(r.All())), tell(m.all()); got != want {
		t.Fatalf("W3: behind %s All gives %.300s, want %.300s", call, got, want)
	}
	sound(t, call, r)
}

func TestRoadIsTheReading(t *testing.T) {
	answers := map[api.Errno]int{}
	most := 0
	for seed := range uint64(250) {
		rng := rand.New(rand.NewPCG(seed, 220))
		now := []int64{0, 77, 1 << 40, api.MaxTime - 500, -3}[rng.IntN(5)]
		span := []int64{0, 1, 10, 1000, api.MaxSpan}[rng.IntN(5)]
		reach := []int64{3, 40, 400, 2 * api.MaxSpan}[rng.IntN(4)]
		r, m := made(t, now, span), newReading(now, span)
		s := newSource(seed, r, reach, false)
		for range 300 {
			call, got, want, err := s.step(m)
			if got != want {
				t.Fatalf("seed %d: %s = %.300s, want %.300s", seed, call, got, want)
			}
			answers[err]++
			most = max(most, r.Len())
			like(t, call, r, m)
		}
	}
	for _, e := range []api.Errno{api.ErrArg, api.ErrLong, api.ErrNone} {
		if answers[e] < 100 {
			t.Errorf("the answer %d came %d times alone", e, answers[e])
		}
	}
	if most < 50 {
		t.Errorf("at most %d were under way", most)
	}
}

// The same on roads that come to be full, again and again.
func TestFullRoadIsTheReading(t *testing.T) {
	answers := map[api.Errno]int{}
	for seed := range uint64(3) {
		r, m := made(t, 0, 12000), newReading(0, 12000)
		s := newSource(seed, r, 40, true)
		for i := range 30000 {
			call, got, want, err := s.step(m)
			if got != want {
				t.Fatalf("seed %d: %s = %.300s, want %.300s", seed, call, got, want)
			}
			answers[err]++
			if i%1500 == 0 {
				like(t, call, r, m)
			}
		}
		if len(r.lying) != api.MaxFlight {
			t.Errorf("seed %d: at most %d were under way", seed, len(r.lying))
		}
	}
	if answers[api.ErrFull] < 100 {
		t.Errorf("a road was full %d times alone", answers[api.ErrFull])
	}
}
