package seen

import (
	"math"
	"reflect"
	"slices"
	"testing"

	"portage/api"
)

// made is one to which nothing has come.
func made(t *testing.T, space int, delay int64) *Seen {
	t.Helper()
	s, err := New(space, delay)
	if s == nil || err != api.OK {
		t.Fatalf("P8.1: New(%d, %d) = %v, %d, want one and OK", space, delay, s, err)
	}
	return s
}

// pairs makes runs of pairs of ends.
func pairs(ends ...int64) []api.Run {
	var l []api.Run
	for i := 0; i+1 < len(ends); i += 2 {
		l = append(l, api.Run{Lo: ends[i], Hi: ends[i+1]})
	}
	return l
}

// singles makes a run of each number from lo to hi by steps.
func singles(lo, hi, step int64) []api.Run {
	var l []api.Run
	for x := lo; x <= hi; x += step {
		l = append(l, api.Run{Lo: x, Hi: x})
	}
	return l
}

// state is all that can be asked of one without changing it.
type state struct {
	deadline       int64
	any            bool
	largest, floor int64
	runs           []api.Run
}

func asked(s *Seen) state {
	return state{s.Deadline(), s.Any(), s.Largest(), s.Floor(), s.Runs()}
}

func (x state) equal(y state) bool {
	return x.deadline == y.deadline && x.any == y.any && x.largest == y.largest && x.floor == y.floor && slices.Equal(x.runs, y.runs)
}

// holds fails if one answers otherwise than this, by any of the calls that only ask.
func holds(t *testing.T, say string, s *Seen, want state) {
	t.Helper()
	if got := asked(s); !got.equal(want) {
		t.Errorf("%s: deadline, any, largest, floor, runs: %v, want %v", say, got, want)
	}
}

// take fails if Take, or Fresh ahead of it, says otherwise.
func take(t *testing.T, s *Seen, now, number int64, eliciting bool, mark int, want bool) {
	t.Helper()
	if got := s.Fresh(number); got != want {
		t.Errorf("P8.2: Fresh(%d) = %v, want %v", number, got, want)
	}
	if got := s.Take(now, number, eliciting, mark); got != want {
		t.Errorf("P8.3: Take(%d, %d, %v, %d) = %v, want %v", now, number, eliciting, mark, got, want)
	}
}

// takeAll takes numbers at one time, none of them eliciting.
func takeAll(t *testing.T, s *Seen, now int64, numbers ...int64) {
	t.Helper()
	for _, x := range numbers {
		take(t, s, now, x, false, api.Unmarked, true)
	}
}

// ack fails if Ack answers another frame, field by field.
func ack(t *testing.T, s *Seen, now int64, exp int, delay int64, counts [3]int64, falling ...int64) {
	t.Helper()
	want := api.Frame{Kind: api.KAck, Runs: pairs(falling...), Delay: delay, Marks: counts != [3]int64{}, Counts: counts}
	f, is := s.Ack(now, exp)
	if !is || !reflect.DeepEqual(f, want) {
		t.Errorf("P8.5: Ack(%d, %d) = %+v, %v, want %+v", now, exp, f, is, want)
	}
	if s.Deadline() != api.Never || s.Any() {
		t.Errorf("P8.5: behind Ack: deadline %d, any %v", s.Deadline(), s.Any())
	}
}

// noAck fails if Ack tells anything.
func noAck(t *testing.T, s *Seen, now int64) {
	t.Helper()
	if f, is := s.Ack(now, 0); is || !reflect.DeepEqual(f, api.Frame{}) {
		t.Errorf("P8.5: Ack of nothing = %+v, %v, want the zero frame and false", f, is)
	}
}

func TestExamples(t *testing.T) {
	s := made(t, api.App, 25000)
	if f, is := s.Ack(100, 3); is || !reflect.DeepEqual(f, api.Frame{}) {
		t.Errorf("P8.5: Ack(100, 3) = %+v, %v", f, is)
	}
	holds(t, "P8.5: Ack of nothing", s, state{api.Never, false, -1, -1, nil})
	take(t, s, 1000, 7, true, api.Unmarked, true)
	holds(t, "P8.3: the first number", s, state{26000, true, 7, -1, pairs(7, 7)})
	take(t, s, 1010, 7, true, api.Unmarked, false)
	holds(t, "P8.3: once more", s, state{26000, true, 7, -1, pairs(7, 7)})
	take(t, s, 1020, 8, false, api.Unmarked, true)
	holds(t, "P8.3: the next", s, state{26000, true, 8, -1, pairs(7, 8)})
	take(t, s, 1100, 10, false, api.Unmarked, true)
	holds(t, "P8.3: with a hole", s, state{26000, true, 10, -1, pairs(7, 8, 10, 10)})
	ack(t, s, 1900, 3, 100, [3]int64{}, 10, 10, 7, 8)
	holds(t, "P8.5: behind Ack", s, state{api.Never, false, 10, -1, pairs(7, 8, 10, 10)})
	take(t, s, 2000, 9, true, api.Unmarked, true)
	holds(t, "P8.3: below the largest", s, state{2000, true, 10, -1, pairs(7, 10)})
	ack(t, s, 2100, 0, 1000, [3]int64{}, 7, 10)
	take(t, s, 3000, 11, true, api.Marked, true)
	holds(t, "P8.3: marked", s, state{3000, true, 11, -1, pairs(7, 11)})
	ack(t, s, 3000, 0, 0, [3]int64{0, 0, 1}, 7, 11)
	take(t, s, 4000, 13, true, api.Unmarked, true)
	holds(t, "P8.3: a hole", s, state{4000, true, 13, -1, pairs(7, 11, 13, 13)})
	s.Forget(11)
	take(t, s, 4001, 9, true, api.Unmarked, false)
	if !s.Fresh(12) {
		t.Error("P8.6: behind Forget(11): Fresh(12) = false")
	}
	holds(t, "P8.6: Forget(11)", s, state{4000, true, 13, 11, pairs(13, 13)})
	s.Forget(99)
	if s.Fresh(13) || !s.Fresh(14) {
		t.Errorf("P8.6: behind Forget(99): Fresh(13), Fresh(14) = %v, %v", s.Fresh(13), s.Fresh(14))
	}
	holds(t, "P8.6: Forget(99)", s, state{api.Never, false, 13, 13, nil})
}

func TestShortExamples(t *testing.T) {
	s := made(t, api.App, 100)
	take(t, s, 5, 1, true, 0, true)
	holds(t, "P8.3: the first one", s, state{105, true, 1, -1, pairs(1, 1)})
	take(t, s, 6, 2, true, 0, true)
	holds(t, "P8.3: the second one", s, state{6, true, 2, -1, pairs(1, 2)})
	s = made(t, api.Initial, 100)
	take(t, s, 5, 1, true, 0, true)
	holds(t, "P8.3: Initial", s, state{5, true, 1, -1, pairs(1, 1)})
	s = made(t, api.App, 100)
	for x := int64(0); x <= 64; x += 2 {
		take(t, s, 1, x, true, 0, true)
	}
	holds(t, "P8.3: 33 runs", s, state{1, true, 64, 0, singles(2, 64, 2)})
}

func TestNew(t *testing.T) {
	for _, c := range []struct {
		space int
		delay int64
	}{
		{-1, 0}, {3, 0}, {math.MinInt, 5}, {math.MaxInt, 5}, {1 << 32, 5},
		{api.Initial, -1}, {api.Handshake, -1}, {api.App, -1}, {api.App, math.MinInt64},
		{api.Initial, api.MaxSpan + 1}, {api.Handshake, api.MaxSpan + 1}, {api.App, api.MaxSpan + 1}, {api.App, math.MaxInt64},
		{-1, -1}, {3, api.MaxSpan + 1},
	} {
		if s, err := New(c.space, c.delay); s != nil || err != api.ErrArg {
			t.Errorf("P8.1: New(%d, %d) = %v, %d, want nil and ErrArg", c.space, c.delay, s, err)
		}
	}
	for _, space := range []int{api.Initial, api.Handshake, api.App} {
		for _, delay := range []int64{0, 1, 25000, api.MaxSpan - 1, api.MaxSpan} {
			s := made(t, space, delay)
			holds(t, "P8.1: a new one", s, state{api.Never, false, -1, -1, nil})
			noAck(t, s, 0)
			want := int64(0)
			if space == api.App {
				want = delay
			}
			take(t, s, 0, 0, true, api.Unmarked, true)
			holds(t, "P8.1: its space and its delay", s, state{want, true, 0, -1, pairs(0, 0)})
		}
	}
}

func TestFresh(t *testing.T) {
	s := made(t, api.App, 100)
	for _, x := range []int64{0, 1, 77, api.MaxNumber - 1, api.MaxNumber} {
		if !s.Fresh(x) {
			t.Errorf("P8.2: nothing has come, and Fresh(%d) = false", x)
		}
	}
	takeAll(t, s, 1, 3, 5, 6, 9)
	s.Forget(3)
	for x, want := range map[int64]bool{
		math.MinInt64: false, -2: false, -1: false, 0: false, 2: false, 3: false, 4: true, 5: false, 6: false, 7: true, 8: true, 9: false, 10: true,
		api.MaxNumber: true, api.MaxNumber + 1: false, math.MaxInt64: false,
	} {
		ahead := asked(s)
		if got := s.Fresh(x); got != want {
			t.Errorf("P8.2: floor 3, kept 5-6 9: Fresh(%d) = %v, want %v", x, got, want)
		}
		holds(t, "P8.2: Fresh changes nothing", s, ahead)
	}
	take(t, s, 1, api.MaxNumber, false, 0, true)
	take(t, s, 1, api.MaxNumber, false, 0, false)
}

func TestTakeOfNoNumber(t *testing.T) {
	s := made(t, api.App, 100)
	for i, x := range []int64{math.MinInt64, -2, -1, api.MaxNumber + 1, api.MaxNumber + 2, math.MaxInt64} {
		take(t, s, int64(10*i), x, true, api.Marked, false)
		holds(t, "P8.3: no number", s, state{api.Never, false, -1, -1, nil})
	}
	noAck(t, s, 0)
	take(t, s, 0, 4, true, api.Unmarked, true)
	holds(t, "P8.3: the clock goes on by what isn't fresh, too", s, state{150, true, 4, -1, pairs(4, 4)})
	ack(t, s, 0, 0, 0, [3]int64{}, 4, 4)
}

func TestTakeAtBothEnds(t *testing.T) {
	s := made(t, api.App, 100)
	take(t, s, 7, api.MaxNumber, true, api.Unmarked, true)
	holds(t, "P8.3: the last number as the first", s, state{107, true, api.MaxNumber, -1, pairs(api.MaxNumber, api.MaxNumber)})
	take(t, s, 8, api.MaxNumber, true, api.Unmarked, false)
	take(t, s, 8, 0, true, api.Unmarked, true)
	holds(t, "P8.3: and the first one behind it", s, state{8, true, api.MaxNumber, -1, pairs(0, 0, api.MaxNumber, api.MaxNumber)})
	ack(t, s, 9, 0, 2, [3]int64{}, api.MaxNumber, api.MaxNumber, 0, 0)
	s.Forget(api.MaxNumber)
	holds(t, "P8.6: all of them", s, state{api.Never, false, api.MaxNumber, api.MaxNumber, nil})
	for _, x := range []int64{0, 1, api.MaxNumber - 1, api.MaxNumber, api.MaxNumber + 1} {
		take(t, s, 9, x, true, api.Unmarked, false)
	}
}

func TestTwice(t *testing.T) {
	s := made(t, api.App, 100)
	take(t, s, 1, 5, true, api.Capable, true)
	ahead := asked(s)
	take(t, s, 2, 5, true, api.Marked, false)
	holds(t, "P8.3: twice at once", s, ahead)
	ack(t, s, 3, 0, 2, [3]int64{1, 0, 0}, 5, 5)
	take(t, s, 4, 5, true, api.Marked, false)
	holds(t, "P8.3: twice, behind an Ack", s, state{api.Never, false, 5, -1, pairs(5, 5)})
	for x := int64(6); x < 500; x++ {
		take(t, s, x, x, false, api.Unmarked, true)
	}
	for x := int64(600); x < 660; x += 3 {
		take(t, s, x, x, false, api.Unmarked, true)
	}
	ahead = asked(s)
	for _, x := range []int64{5, 6, 250, 499, 600, 657} {
		take(t, s, 700, x, true, api.Marked, false)
		holds(t, "P8.8: twice, behind much else", s, ahead)
	}
	if f, _ := s.Ack(700, 0); f.Counts != [3]int64{1, 0, 0} {
		t.Errorf("P8.3: of one that isn't fresh the mark is counted: %d", f.Counts)
	}
}

func TestOrder(t *testing.T) {
	for _, order := range [][]int64{{0, 1, 2, 3, 4}, {4, 3, 2, 1, 0}, {2, 0, 4, 1, 3}, {0, 4, 1, 3, 2}} {
		s := made(t, api.App, 100)
		largest := int64(-1)
		for i, x := range order {
			take(t, s, int64(i), x, i%2 == 0, api.Unmarked, true)
			largest = max(largest, x)
			if s.Largest() != largest {
				t.Errorf("P8.3: %d of %d: largest %d, want %d", i, order, s.Largest(), largest)
			}
		}
		if !slices.Equal(s.Runs(), pairs(0, 4)) || s.Floor() != -1 {
			t.Errorf("P8.7: of %d: runs %d, floor %d", order, s.Runs(), s.Floor())
		}
	}
}

// The runs join, grow at both ends and stand apart as their numbers do.
func TestRuns(t *testing.T) {
	s := made(t, api.App, 100)
	for _, c := range []struct {
		number int64
		runs   []api.Run
	}{
		{10, pairs(10, 10)}, {12, pairs(10, 10, 12, 12)}, {9, pairs(9, 10, 12, 12)}, {13, pairs(9, 10, 12, 13)}, {11, pairs(9, 13)},
		{0, pairs(0, 0, 9, 13)}, {1, pairs(0, 1, 9, 13)}, {7, pairs(0, 1, 7, 7, 9, 13)}, {8, pairs(0, 1, 7, 13)},
	} {
		take(t, s, 1, c.number, false, api.Unmarked, true)
		if got := s.Runs(); !slices.Equal(got, c.runs) {
			t.Errorf("P8.7: behind %d: runs %d, want %d", c.number, got, c.runs)
		}
	}
}
