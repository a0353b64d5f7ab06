package road

import (
	"fmt"
	"math"
	"strings"
	"testing"

	"portage/api"
)

// Of one time they are told by their numbers, in whatever places they lie: those given last lie where the first lay.
func TestOrderOfOneTime(t *testing.T) {
	r := made(t, 0, 10)
	for id := range 6 {
		put(t, r, 0, api.Server, "x", api.Unmarked, id)
	}
	for _, id := range []int{4, 0, 2} {
		is(t, "W2: Lose", r.Lose(id), api.OK)
	}
	for id := 6; id < 10; id++ {
		put(t, r, 0, api.Client, "y", api.Unmarked, id)
	}
	const want = "1s10-x 3s10-x 5s10-x 6c10-y 7c10-y 8c10-y 9c10-y"
	holds(t, "W3: of one time by number", r, want)
	takes(t, "W3: of one time by number", r, 10, want)
}

// By their times first, be the numbers as they may.
func TestOrderOfTimes(t *testing.T) {
	r := made(t, 0, 0)
	var want []string
	for id := range 300 {
		put(t, r, 0, api.Server, "x", api.Unmarked, id)
	}
	for id := range 300 {
		is(t, "W2: Delay", r.Delay(id, int64(5000-id/3*7)), api.OK)
	}
	for group := 99; group >= 0; group-- {
		for id := 3 * group; id < 3*group+3; id++ {
			want = append(want, fmt.Sprintf("%ds%d-x", id, 5000-group*7))
		}
	}
	holds(t, "W3: by time", r, strings.Join(want, " "))
	takes(t, "W3: by time", r, 4306, "")
	takes(t, "W3: by time", r, 4307, strings.Join(want[:3], " "))
	takes(t, "W3: by time", r, 5000, strings.Join(want[3:], " "))
}

func TestTakeAtItsTime(t *testing.T) {
	for _, at := range []int64{0, 1, 63, 64, 4095, 4096, 1 << 20, api.MaxTime - 1, api.MaxTime} {
		r := made(t, 0, 0)
		put(t, r, 0, api.Client, "x", api.Marked, 0)
		is(t, "W2: Delay", r.Delay(0, at), api.OK)
		if at > 0 {
			takes(t, "W4: ahead of its time", r, at-1, "")
		}
		takes(t, "W3: at its time", r, at, fmt.Sprintf("0c%d!x", at))
		takes(t, "W3: once", r, at, "")
		is(t, "W3: it is under way no more: Lose", r.Lose(0), api.ErrNone)
		is(t, "W3: it is under way no more: Delay", r.Delay(0, 5), api.ErrNone)
		is(t, "W3: it is under way no more: Mark", r.Mark(0), api.ErrNone)
		holds(t, "W3: it is under way no more", r, "")
	}
}

// The clock of Take goes never back, and not beyond MaxTime.
func TestTakeTimes(t *testing.T) {
	r := made(t, 100, 50)
	put(t, r, 100, api.Client, "a", 0, 0)
	put(t, r, 120, api.Client, "b", 0, 1)
	for _, now := range []int64{math.MinInt64, -1, 0, 100, 149} {
		takes(t, "W3", r, now, "")
	}
	put(t, r, 0, api.Client, "c", 0, 2)
	takes(t, "W3: the clock was 149", r, 160, "0c150-a")
	takes(t, "W3", r, 3, "")
	put(t, r, 199, api.Client, "d", 0, 3)
	takes(t, "W3: Put moved the clock", r, 180, "1c170-b 2c199-c")
	takes(t, "W3", r, 248, "")
	takes(t, "W3", r, math.MaxInt64, "3c249-d")
	put(t, r, 5, api.Client, "e", 0, 4)
	takes(t, "R5: behind MaxTime", r, math.MaxInt64, "")
	holds(t, "R5: behind MaxTime", r, "4c1125899906842674-e")
	is(t, "W2: Delay(4, MaxTime)", r.Delay(4, api.MaxTime), api.OK)
	takes(t, "R5: at MaxTime", r, 0, "4c1125899906842624-e")
}

// Over no distance one arrives at once.
func TestNoSpan(t *testing.T) {
	r := made(t, 7, 0)
	put(t, r, 7, api.Client, "a", 0, 0)
	put(t, r, 3, api.Server, "b", 0, 1)
	takes(t, "W3: over no distance", r, 0, "0c7-a 1s7-b")
}

func TestNext(t *testing.T) {
	r := made(t, 0, 10)
	next := func(want int64) {
		t.Helper()
		if at := r.Next(); at != want {
			t.Errorf("W3: Next = %d, want %d", at, want)
		}
	}
	next(api.Never)
	put(t, r, 0, api.Client, "a", 0, 0)
	next(10)
	put(t, r, 4, api.Client, "b", 0, 1)
	next(10)
	r.Delay(0, 20)
	next(14)
	double(t, r, 0, 12, 2)
	next(12)
	r.Lose(2)
	next(14)
	r.Delay(1, api.Never-1)
	next(20)
	r.Delay(1, 0)
	next(0)
	r.Take(1)
	next(20)
	r.Delay(0, api.Never-1)
	next(api.Never - 1)
	r.Lose(0)
	next(api.Never)
}

// ids goes through all of a road, and tells the numbers.
func ids(r *Road) string {
	var l []string
	for f := range r.All() {
		l = append(l, fmt.Sprint(f.ID))
	}
	return strings.Join(l, " ")
}

// What is given is what was under way when one began, whatever becomes of the road meanwhile.
func TestAllGivesWhatWas(t *testing.T) {
	for _, c := range []struct {
		what string
		do   func(r *Road)
	}{
		{"Take", func(r *Road) { r.Take(99) }},
		{"Lose", func(r *Road) { r.Lose(2); r.Lose(3); r.Lose(4) }},
		{"Lose and Put", func(r *Road) { r.Lose(3); r.Lose(4); r.Put(0, 0, []byte("new"), 2); r.Put(0, 0, []byte("new"), 2) }},
		{"Take and Put", func(r *Road) { r.Take(99); fill(t, r, 99) }},
		{"Delay", func(r *Road) { r.Delay(2, 50); r.Delay(3, 49); r.Delay(4, 48) }},
		{"Mark", func(r *Road) { r.Mark(3) }},
		{"Double", func(r *Road) { r.Double(3, 31); r.Double(4, 33) }},
	} {
		for stop := 1; stop <= 3; stop++ {
			r := three(t)
			var l []api.Flight
			for f := range r.All() {
				if l = append(l, f); len(l) == stop {
					c.do(r)
				}
			}
			if got := tell(l); got != asThree {
				t.Errorf("W3: %s behind the datagram %d of a range: it gives %s, want %s", c.what, stop, got, asThree)
			}
			sound(t, c.what, r)
		}
	}
}

// What counts is when one begins to go through it, not when All was asked; behind the range the next one gives what is there then.
func TestAllAnew(t *testing.T) {
	r := three(t)
	all := r.All()
	gives := func(want string) {
		t.Helper()
		var l []api.Flight
		for f := range all {
			l = append(l, f)
		}
		if got := tell(l); got != want {
			t.Errorf("W3: All gives %s, want %s", got, want)
		}
	}
	gives(asThree)
	put(t, r, 23, api.Client, "d", 0, 5)
	gives(asThree + " 5c33-d")
	r.Lose(2)
	r.Mark(3)
	gives("3c31!b 4s32!c 5c33-d")
	r.Take(32)
	gives("5c33-d")
	r.Take(33)
	gives("")
}

func TestAllLeftEarly(t *testing.T) {
	r := three(t)
	all := r.All()
	for n := 1; n <= 3; n++ {
		var l []api.Flight
		for f := range all {
			if l = append(l, f); len(l) == n {
				break
			}
		}
		if got := tell(l); got != strings.Join(strings.Fields(asThree)[:n], " ") {
			t.Errorf("W3: left behind %d All has given %s", n, got)
		}
	}
	// A body that has said that it wants no more is not asked again.
	calls := 0
	all(func(api.Flight) bool { calls++; return calls < 2 })
	if calls != 2 {
		t.Errorf("W3: All gave %d, of which two were wanted", calls)
	}
	holds(t, "W3: All, left early", r, asThree)
}

func TestAllWithinItself(t *testing.T) {
	r := three(t)
	all := r.All()
	var l []string
	for f := range all {
		for g := range all {
			l = append(l, fmt.Sprint(f.ID, g.ID))
			if g.ID == f.ID {
				break
			}
		}
		r.Lose(f.ID)
	}
	if got := strings.Join(l, ", "); got != "2 2, 3 3, 4 4" {
		t.Errorf("W3: All within itself gives %s", got)
	}
	if got := ids(r); got != "" {
		t.Errorf("W3: %s are left", got)
	}
}

func TestAllOfNone(t *testing.T) {
	r := made(t, 0, 10)
	if r.All() == nil {
		t.Fatal("W3: All is nil")
	}
	for range 2 {
		r.All()(func(f api.Flight) bool { t.Errorf("W3: of none All gives %s", one(f)); return true })
	}
	put(t, r, 0, api.Client, "", 0, 0)
	r.Take(10)
	if r.All() == nil {
		t.Fatal("W3: All is nil")
	}
	r.All()(func(f api.Flight) bool { t.Errorf("W3: of none All gives %s", one(f)); return true })
}
