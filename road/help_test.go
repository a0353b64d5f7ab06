package road

import (
	"fmt"
	"maps"
	"math"
	"slices"
	"strings"
	"testing"

	"portage/api"
)

// Numbers that no datagram has, whatever the road.
var nobody = []int{math.MinInt, -api.MaxFlight, -2, -1, 1 << 40, math.MaxInt - 1, math.MaxInt}

// Times to which none may be put off.
var noArrival = []int64{math.MinInt64, math.MinInt64 + 1, -api.Never, -2, -1, api.Never, api.Never + 1, math.MaxInt64 - 1, math.MaxInt64}

func made(t *testing.T, now, span int64) *Road {
	t.Helper()
	r, err := New(now, span)
	if r == nil || err != api.OK {
		t.Fatalf("W1: New(%d, %d) = %v, %d", now, span, r, err)
	}
	return r
}

// put puts one onto the road, that must get this number.
func put(t *testing.T, r *Road, now int64, to int, text string, mark, want int) {
	t.Helper()
	if id, err := r.Put(now, to, []byte(text), mark); id != want || err != api.OK {
		t.Fatalf("W1: Put(%d, %d, %.20q, %d) = %d, %d, want %d", now, to, text, mark, id, err, want)
	}
}

// double doubles one; the other one must get this number.
func double(t *testing.T, r *Road, id int, at int64, want int) {
	t.Helper()
	if other, err := r.Double(id, at); other != want || err != api.OK {
		t.Fatalf("W2: Double(%d, %d) = %d, %d, want %d", id, at, other, err, want)
	}
}

// is holds an error to what it must be.
func is(t *testing.T, what string, got, want api.Errno) {
	t.Helper()
	if got != want {
		t.Errorf("%s = %d, want %d", what, got, want)
	}
}

// one tells a datagram: its number, to whom, when, its mark, its bytes.
func one(f api.Flight) string {
	return fmt.Sprintf("%d%s%d%s%s", f.ID, []string{"c", "s"}[f.To], f.At, []string{"-", "+", "!"}[f.Mark], f.Data)
}

// tell tells several.
func tell(l []api.Flight) string {
	var texts []string
	for _, f := range l {
		texts = append(texts, one(f))
	}
	return strings.Join(texts, " ")
}

// takes holds Take to what it must tell.
func takes(t *testing.T, what string, r *Road, now int64, want string) {
	t.Helper()
	if got := tell(r.Take(now)); got != want {
		t.Errorf("%s: Take(%d) = %.300s, want %.300s", what, now, got, want)
	}
	sound(t, what, r)
}

// holds holds All, Next and Len to what is under way; asking changes nothing.
func holds(t *testing.T, what string, r *Road, want string) {
	t.Helper()
	before := picture(r)
	for range 2 {
		l := slices.Collect(r.All())
		if got := tell(l); got != want {
			t.Errorf("%s: All gives %.300s, want %.300s", what, got, want)
		}
		next := int64(api.Never)
		if len(l) > 0 {
			next = l[0].At
		}
		if n := r.Len(); n != len(l) {
			t.Errorf("W3: %s: Len = %d, want %d", what, n, len(l))
		}
		if at := r.Next(); at != next {
			t.Errorf("W3: %s: Next = %d, want %d", what, at, next)
		}
	}
	if !picture(r).same(before) {
		t.Errorf("W3: %s: All, Len or Next changed something", what)
	}
	sound(t, what, r)
}

// sound looks at how a road keeps what it has: each number has a place of its own, nothing is kept in any other place, the wheel knows just these places.
func sound(t *testing.T, what string, r *Road) {
	t.Helper()
	there := map[int]bool{}
	for id, place := range r.places {
		g := r.lying[place]
		if at, err := r.arrivals.When(place); g.id != id || at != g.at || err != api.OK || there[place] {
			t.Fatalf("%s: number %d lies at %d as %+v, for the wheel at %d, %d", what, id, place, g, at, err)
		}
		there[place] = true
	}
	for _, place := range r.free {
		if r.lying[place] != (gram{}) || there[place] {
			t.Fatalf("%s: in the free place %d lies %+v", what, place, r.lying[place])
		}
		there[place] = true
	}
	if len(there) != len(r.lying) || len(r.lying) > api.MaxFlight || r.arrivals.Len() != len(r.places) {
		t.Fatalf("%s: %d places, %d of them in use or free; the wheel has %d for %d", what, len(r.lying), len(there), r.arrivals.Len(), len(r.places))
	}
}

// A state is all that is known of a road.
type state struct {
	now, span, wheelNow int64
	next                int
	places              map[int]int
	lying               []gram
	free                []int
	arrivals            [][2]int64
}

// picture tells all that is known of a road.
func picture(r *Road) state {
	s := state{r.now, r.span, r.arrivals.Now(), r.next, maps.Clone(r.places), slices.Clone(r.lying), slices.Clone(r.free), nil}
	for place, at := range r.arrivals.All() {
		s.arrivals = append(s.arrivals, [2]int64{int64(place), at})
	}
	return s
}

func (s state) same(o state) bool {
	return s.now == o.now && s.span == o.span && s.wheelNow == o.wheelNow && s.next == o.next && maps.Equal(s.places, o.places) &&
		slices.Equal(s.lying, o.lying) && slices.Equal(s.free, o.free) && slices.Equal(s.arrivals, o.arrivals)
}

// unchanged holds calls to changing nothing.
func unchanged(t *testing.T, what string, r *Road, calls func()) {
	t.Helper()
	before := picture(r)
	calls()
	if !picture(r).same(before) {
		t.Errorf("%s changed something", what)
	}
}

// fill fills a road: with numbers up to MaxFlight - 1, if it was new.
func fill(t *testing.T, r *Road, now int64) {
	t.Helper()
	for r.Len() < api.MaxFlight {
		if _, err := r.Put(now, api.Server, []byte("x"), api.Capable); err != api.OK {
			t.Fatalf("W1: Put on a road with %d is refused: %d", r.Len(), err)
		}
	}
}
