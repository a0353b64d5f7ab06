package seen

import (
	"math"
	"testing"

	"portage/api"
)

// Each condition of P8.3 by itself, and none of them, with a largest of 10 that has been told.
func TestAtOnce(t *testing.T) {
	for _, c := range []struct {
		say    string
		space  int
		waits  bool
		number int64
		mark   int
		want   int64
	}{
		{"none", api.App, false, 11, api.Unmarked, 150},
		{"none, capable", api.App, false, 11, api.Capable, 150},
		{"none, a mark that is none", api.App, false, 11, 3, 150},
		{"none, a mark that is none", api.App, false, 11, -1, 150},
		{"none, a mark that is none", api.App, false, 11, math.MaxInt, 150},
		{"1", api.Initial, false, 11, api.Unmarked, 50},
		{"1", api.Handshake, false, 11, api.Unmarked, 50},
		{"2", api.App, true, 12, api.Unmarked, 50},
		{"3, just below", api.App, false, 9, api.Unmarked, 50},
		{"3, far below", api.App, false, 0, api.Unmarked, 50},
		{"3, a hole of one", api.App, false, 12, api.Unmarked, 50},
		{"3, a great hole", api.App, false, api.MaxNumber, api.Unmarked, 50},
		{"4", api.App, false, 11, api.Marked, 50},
		{"all", api.Initial, true, 3, api.Marked, 50},
	} {
		s := made(t, c.space, 100)
		take(t, s, 10, 10, true, api.Unmarked, true)
		s.Ack(20, 0)
		if c.waits {
			take(t, s, 30, 11, true, api.Unmarked, true)
			if s.Deadline() != 130 && c.space == api.App {
				t.Errorf("P8.3: the one that waits already: deadline %d, want 130", s.Deadline())
			}
		}
		take(t, s, 50, c.number, true, c.mark, true)
		want := c.want
		if c.waits && c.space != api.App {
			want = 30
		}
		if got := s.Deadline(); got != want {
			t.Errorf("P8.3, %s: deadline %d, want %d", c.say, got, want)
		}
	}
}

// The first number has no hole below it, wherever it lies; with the floor raised by a Forget there is still none.
func TestFirstNumber(t *testing.T) {
	for _, x := range []int64{0, 1, 2, 1000, api.MaxNumber} {
		s := made(t, api.App, 100)
		s.Forget(5)
		take(t, s, 5, x, true, api.Unmarked, true)
		holds(t, "P8.3: the first number", s, state{105, true, x, -1, pairs(x, x)})
	}
}

// Behind 0 a hole is one as behind any other number.
func TestHoleAboveZero(t *testing.T) {
	for x, want := range map[int64]int64{1: 110, 2: 10, 3: 10} {
		s := made(t, api.App, 100)
		takeAll(t, s, 1, 0)
		take(t, s, 10, x, true, api.Unmarked, true)
		if got := s.Deadline(); got != want {
			t.Errorf("P8.3, 3: %d behind 0: deadline %d, want %d", x, got, want)
		}
	}
}

// What counts is the largest, not whether a run is joined: one that doesn't elicit raises it, too; and a Forget leaves it.
func TestLargestAhead(t *testing.T) {
	s := made(t, api.App, 100)
	takeAll(t, s, 1, 3)
	take(t, s, 2, 4, true, api.Unmarked, true)
	holds(t, "P8.3: one more than one that doesn't elicit", s, state{102, true, 4, -1, pairs(3, 4)})
	s.Forget(9)
	take(t, s, 5, 5, true, api.Unmarked, true)
	holds(t, "P8.6: one more than the largest that was forgotten", s, state{105, true, 5, 4, pairs(5, 5)})
	s.Forget(5)
	take(t, s, 6, 7, true, api.Unmarked, true)
	holds(t, "P8.6: a hole above the largest that was forgotten", s, state{6, true, 7, 5, pairs(7, 7)})
	s.Ack(7, 0)
	take(t, s, 8, 6, true, api.Unmarked, true)
	holds(t, "P8.3, 3: a hole that is filled", s, state{8, true, 7, 5, pairs(6, 7)})
}

func TestNotEliciting(t *testing.T) {
	for _, space := range []int{api.Initial, api.Handshake, api.App} {
		s := made(t, space, 100)
		take(t, s, 5, 9, false, api.Marked, true)
		take(t, s, 6, 4, false, api.Unmarked, true)
		take(t, s, 7, 40, false, api.Capable, true)
		holds(t, "P8.3: none that elicits", s, state{api.Never, true, 40, -1, pairs(4, 4, 9, 9, 40, 40)})
	}
	s := made(t, api.App, 100)
	takeAll(t, s, 1, 1, 2)
	take(t, s, 5, 3, true, api.Unmarked, true)
	holds(t, "P8.3, 2: those that don't elicit don't wait", s, state{105, true, 3, -1, pairs(1, 3)})
	take(t, s, 9, 7, false, api.Marked, true)
	holds(t, "P8.3: one that doesn't elicit leaves the deadline", s, state{105, true, 7, -1, pairs(1, 3, 7, 7)})
}

func TestDeadlineThatIsSet(t *testing.T) {
	s := made(t, api.App, 100)
	take(t, s, 10, 1, true, api.Unmarked, true)
	take(t, s, 60, 2, true, api.Unmarked, true)
	holds(t, "P8.3: one that is set later", s, state{60, true, 2, -1, pairs(1, 2)})
	take(t, s, 70, 3, true, api.Marked, true)
	holds(t, "P8.3: one that is set earlier stays", s, state{60, true, 3, -1, pairs(1, 3)})
	s = made(t, api.App, 100)
	take(t, s, 10, 1, true, api.Unmarked, true)
	take(t, s, 110, 2, true, api.Unmarked, true)
	holds(t, "P8.3: at the deadline", s, state{110, true, 2, -1, pairs(1, 2)})
	s = made(t, api.App, 100)
	take(t, s, 10, 1, true, api.Unmarked, true)
	take(t, s, 500, 2, true, api.Unmarked, true)
	holds(t, "P8.10: behind the deadline it stays", s, state{110, true, 2, -1, pairs(1, 2)})
	s = made(t, api.App, 0)
	take(t, s, 10, 1, true, api.Unmarked, true)
	holds(t, "P8.3: a delay of 0", s, state{10, true, 1, -1, pairs(1, 1)})
}

func TestClock(t *testing.T) {
	s := made(t, api.App, 100)
	take(t, s, math.MinInt64, 1, true, api.Unmarked, true)
	holds(t, "R5: the clock begins at 0", s, state{100, true, 1, -1, pairs(1, 1)})
	ack(t, s, -5, 0, 0, [3]int64{}, 1, 1)
	take(t, s, 1000, 2, false, api.Unmarked, true)
	take(t, s, 400, 3, true, api.Unmarked, true)
	holds(t, "R5: a time that has passed", s, state{1100, true, 3, -1, pairs(1, 3)})
	ack(t, s, 999, 0, 0, [3]int64{}, 1, 3)
	ack(t, s, 1500, 0, 500, [3]int64{}, 1, 3)
	take(t, s, 1200, 4, true, api.Unmarked, true)
	holds(t, "R5: Ack hands the clock a time, too", s, state{1600, true, 4, -1, pairs(1, 4)})
	s.Forget(4)
	noAck(t, s, 2000)
	take(t, s, 0, 5, true, api.Unmarked, true)
	holds(t, "P8.5: so does an Ack of nothing", s, state{2100, true, 5, 4, pairs(5, 5)})
}

func TestLastTime(t *testing.T) {
	for _, now := range []int64{api.MaxTime, api.MaxTime + 1, api.Never, math.MaxInt64} {
		s := made(t, api.App, api.MaxSpan)
		take(t, s, now, 1, true, api.Unmarked, true)
		holds(t, "R5: the last time, and a deadline that is later than any", s, state{api.MaxTime + api.MaxSpan, true, 1, -1, pairs(1, 1)})
		take(t, s, now, 2, true, api.Unmarked, true)
		holds(t, "R5: at once", s, state{api.MaxTime, true, 2, -1, pairs(1, 2)})
		ack(t, s, now, 0, 0, [3]int64{}, 1, 2)

		s = made(t, api.App, api.MaxSpan)
		takeAll(t, s, 0, 1)
		ack(t, s, now, 0, api.MaxTime, [3]int64{}, 1, 1)
		ack(t, s, now, 21, api.MaxTime>>20, [3]int64{}, 1, 1)
	}
	s := made(t, api.App, api.MaxSpan)
	take(t, s, api.MaxTime-1, 1, true, api.Unmarked, true)
	holds(t, "R5: just ahead of the last time", s, state{api.MaxTime - 1 + api.MaxSpan, true, 1, -1, pairs(1, 1)})
}
