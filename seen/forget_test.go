package seen

import (
	"math"
	"testing"

	"portage/api"
)

// waiting is one with the runs 2-4 6 8-10, of which 6 and 10 elicit: its deadline is 7.
func waiting(t *testing.T) *Seen {
	t.Helper()
	s := made(t, api.App, 100)
	takeAll(t, s, 5, 2, 3, 4)
	take(t, s, 7, 6, true, api.Unmarked, true)
	takeAll(t, s, 8, 8, 9)
	take(t, s, 9, 10, true, api.Unmarked, true)
	holds(t, "ahead of Forget", s, state{7, true, 10, -1, pairs(2, 4, 6, 6, 8, 10)})
	return s
}

func TestForget(t *testing.T) {
	for _, c := range []struct {
		say    string
		number int64
		want   state
	}{
		{"the least number", math.MinInt64, state{7, true, 10, -1, pairs(2, 4, 6, 6, 8, 10)}},
		{"-2", -2, state{7, true, 10, -1, pairs(2, 4, 6, 6, 8, 10)}},
		{"at the floor", -1, state{7, true, 10, -1, pairs(2, 4, 6, 6, 8, 10)}},
		{"below all that is kept", 0, state{7, true, 10, 0, pairs(2, 4, 6, 6, 8, 10)}},
		{"just below a run", 1, state{7, true, 10, 1, pairs(2, 4, 6, 6, 8, 10)}},
		{"a run's first", 2, state{7, true, 10, 2, pairs(3, 4, 6, 6, 8, 10)}},
		{"in the midst of a run", 3, state{7, true, 10, 3, pairs(4, 4, 6, 6, 8, 10)}},
		{"a run's last", 4, state{7, true, 10, 4, pairs(6, 6, 8, 10)}},
		{"a hole", 5, state{7, true, 10, 5, pairs(6, 6, 8, 10)}},
		{"one that elicits", 6, state{7, true, 10, 6, pairs(8, 10)}},
		{"just below the largest", 9, state{7, true, 10, 9, pairs(10, 10)}},
		{"the largest", 10, state{api.Never, false, 10, 10, nil}},
		{"one above it", 11, state{api.Never, false, 10, 10, nil}},
		{"far above it", math.MaxInt64, state{api.Never, false, 10, 10, nil}},
	} {
		s := waiting(t)
		s.Forget(c.number)
		holds(t, "P8.6: "+c.say, s, c.want)
		s.Forget(c.number)
		holds(t, "P8.6: twice: "+c.say, s, c.want)
		for x := int64(-1); x <= 12; x++ {
			kept := false
			for _, r := range c.want.runs {
				kept = kept || r.Lo <= x && x <= r.Hi
			}
			take(t, s, 20, x, false, api.Unmarked, x > c.want.floor && !kept)
		}
	}
}

func TestForgetBelowTheFloor(t *testing.T) {
	s := waiting(t)
	s.Forget(6)
	for _, x := range []int64{math.MinInt64, -1, 0, 3, 5, 6} {
		s.Forget(x)
		holds(t, "P8.6: below the floor", s, state{7, true, 10, 6, pairs(8, 10)})
	}
	s.Forget(8)
	holds(t, "P8.6: above it again", s, state{7, true, 10, 8, pairs(9, 10)})
}

func TestForgetOfNothing(t *testing.T) {
	s := made(t, api.App, 100)
	for _, x := range []int64{math.MinInt64, -1, 0, 5, api.MaxNumber, math.MaxInt64} {
		s.Forget(x)
		holds(t, "P8.6: nothing has come", s, state{api.Never, false, -1, -1, nil})
	}
	take(t, s, 1, 0, true, api.Unmarked, true)
	holds(t, "P8.6: and all is fresh", s, state{101, true, 0, -1, pairs(0, 0)})
}

// Behind a Forget an Ack tells the others, and what waited waits on; behind one of all it begins anew.
func TestBehindForget(t *testing.T) {
	s := waiting(t)
	s.Forget(8)
	ack(t, s, 20, 0, 11, [3]int64{}, 9, 10)
	s = waiting(t)
	s.Forget(6)
	take(t, s, 30, 11, true, api.Unmarked, true)
	holds(t, "P8.6: what waits is not forgotten while something is kept", s, state{7, true, 11, 6, pairs(8, 11)})
	s = waiting(t)
	s.Forget(10)
	noAck(t, s, 25)
	take(t, s, 30, 11, true, api.Unmarked, true)
	holds(t, "P8.6: behind all nothing waits", s, state{130, true, 11, 10, pairs(11, 11)})
	ack(t, s, 31, 0, 1, [3]int64{}, 11, 11)
	s = waiting(t)
	s.Forget(4)
	take(t, s, 30, 5, true, api.Unmarked, true)
	holds(t, "P8.6: just above the floor", s, state{7, true, 10, 4, pairs(5, 6, 8, 10)})
}

// full is one with the runs 100, 103, .. 193, as many as may be.
func full(t *testing.T) *Seen {
	t.Helper()
	s := made(t, api.App, 100)
	for x := int64(100); x <= 193; x += 3 {
		takeAll(t, s, 1, x)
	}
	holds(t, "P8.10: as many runs as may be", s, state{api.Never, true, 193, -1, singles(100, 193, 3)})
	s.Ack(2, 0)
	return s
}

func TestOneRunMore(t *testing.T) {
	s := full(t)
	take(t, s, 9, 196, true, api.Unmarked, true)
	holds(t, "P8.3: one run more at the top", s, state{9, true, 196, 100, singles(103, 196, 3)})
	for x, want := range map[int64]bool{99: false, 100: false, 101: true, 102: true, 103: false} {
		if got := s.Fresh(x); got != want {
			t.Errorf("P8.3: behind it Fresh(%d) = %v, want %v", x, got, want)
		}
	}
	s = full(t)
	take(t, s, 9, 98, true, api.Unmarked, true)
	holds(t, "P8.3: the run of the very number goes", s, state{9, true, 193, 98, singles(100, 193, 3)})
	take(t, s, 10, 98, true, api.Unmarked, false)
	take(t, s, 10, 97, true, api.Unmarked, false)
	take(t, s, 10, 99, true, api.Unmarked, true)
	holds(t, "P8.3: one that joins the lowest run", s, state{9, true, 193, 98, append(pairs(99, 100), singles(103, 193, 3)...)})
	ack(t, s, 10, 0, 9, [3]int64{}, fallingEnds(append(pairs(99, 100), singles(103, 193, 3)...))...)
	s = full(t)
	take(t, s, 9, 0, false, api.Marked, true)
	holds(t, "P8.3: the run of the very number 0 goes", s, state{api.Never, true, 193, 0, singles(100, 193, 3)})
	if f, _ := s.Ack(9, 0); f.Counts != [3]int64{0, 0, 1} {
		t.Errorf("P8.3: its mark is counted all the same: %d", f.Counts)
	}
}

func TestOneRunMoreInTheMidst(t *testing.T) {
	s := full(t)
	takeAll(t, s, 9, 101)
	holds(t, "P8.3: a run that grows is no more runs", s, state{api.Never, true, 193, -1, append(pairs(100, 101), singles(103, 193, 3)...)})
	take(t, s, 9, 195, false, api.Unmarked, true)
	holds(t, "P8.3: the lowest run goes whole, and its greatest number is the floor", s, state{api.Never, true, 195, 101, append(singles(103, 193, 3), api.Run{Lo: 195, Hi: 195})})
	takeAll(t, s, 9, 194)
	holds(t, "P8.3: two runs become one", s, state{api.Never, true, 195, 101, append(singles(103, 190, 3), api.Run{Lo: 193, Hi: 195})})
	takeAll(t, s, 9, 200)
	holds(t, "P8.3: and there is room for one", s, state{api.Never, true, 200, 101, append(append(singles(103, 190, 3), api.Run{Lo: 193, Hi: 195}), api.Run{Lo: 200, Hi: 200})})
	takeAll(t, s, 9, 198)
	if s.Floor() != 103 || len(s.Runs()) != api.MaxRuns {
		t.Errorf("P8.3: one in the midst: floor %d, %d runs", s.Floor(), len(s.Runs()))
	}
	s.Forget(110)
	if s.Floor() != 110 || len(s.Runs()) != api.MaxRuns-2 {
		t.Errorf("P8.6: Forget makes room: floor %d, %d runs", s.Floor(), len(s.Runs()))
	}
	takeAll(t, s, 9, 204, 206)
	if s.Floor() != 110 || len(s.Runs()) != api.MaxRuns {
		t.Errorf("P8.6: the room is used: floor %d, %d runs", s.Floor(), len(s.Runs()))
	}
}

// fallingEnds is the ends of rising runs, falling.
func fallingEnds(l []api.Run) []int64 {
	var ends []int64
	for i := len(l) - 1; i >= 0; i-- {
		ends = append(ends, l[i].Lo, l[i].Hi)
	}
	return ends
}
