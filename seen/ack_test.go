package seen

import (
	"math"
	"reflect"
	"slices"
	"testing"

	"portage/api"
)

func TestAckOfNothing(t *testing.T) {
	s := made(t, api.App, 100)
	noAck(t, s, 5)
	noAck(t, s, 5)
	holds(t, "P8.5: of nothing", s, state{api.Never, false, -1, -1, nil})
	take(t, s, 6, 1, true, api.Marked, true)
	s.Forget(1)
	noAck(t, s, 7)
	holds(t, "P8.5: of nothing any more", s, state{api.Never, false, 1, 1, nil})
}

func TestAckTwice(t *testing.T) {
	s := made(t, api.App, 100)
	take(t, s, 10, 3, true, api.Unmarked, true)
	take(t, s, 20, 5, true, api.Unmarked, true)
	for now := int64(20); now < 50; now += 10 {
		ack(t, s, now, 0, now-20, [3]int64{}, 5, 5, 3, 3)
		holds(t, "P8.5: what is told stays", s, state{api.Never, false, 5, -1, pairs(3, 3, 5, 5)})
	}
	take(t, s, 60, 6, true, api.Unmarked, true)
	holds(t, "P8.5: behind Ack nothing waits", s, state{160, true, 6, -1, pairs(3, 3, 5, 6)})
}

func TestDelay(t *testing.T) {
	const gone = 1<<40 + 1<<21 + 1<<20 - 1
	for _, c := range []struct {
		exp  int
		want int64
	}{
		{math.MinInt, gone}, {-1, gone}, {0, gone}, {1, gone / 2}, {3, gone / 8}, {19, gone >> 19}, {20, 1<<20 + 2}, {21, 1<<20 + 2}, {64, 1<<20 + 2}, {math.MaxInt, 1<<20 + 2},
	} {
		s := made(t, api.App, 100)
		takeAll(t, s, 77, 4)
		ack(t, s, 77+gone, c.exp, c.want, [3]int64{}, 4, 4)
	}
	for gone, want := range map[int64]int64{0: 0, 7: 0, 8: 1, 15: 1, 16: 2} {
		s := made(t, api.App, 100)
		takeAll(t, s, 100, 1)
		ack(t, s, 100+gone, 3, want, [3]int64{}, 1, 1)
	}
}

// The delay is that of the largest: neither one below it nor one that comes twice counts.
func TestDelayOfTheLargest(t *testing.T) {
	s := made(t, api.App, 100)
	takeAll(t, s, 10, 5)
	takeAll(t, s, 20, 3)
	take(t, s, 30, 5, true, api.Unmarked, false)
	ack(t, s, 40, 0, 30, [3]int64{}, 5, 5, 3, 3)
	s.Forget(3)
	ack(t, s, 50, 0, 40, [3]int64{}, 5, 5)
	takeAll(t, s, 60, 6)
	ack(t, s, 60, 0, 0, [3]int64{}, 5, 6)
	s.Forget(6)
	takeAll(t, s, 70, 8)
	ack(t, s, 75, 0, 5, [3]int64{}, 8, 8)
}

func TestMarks(t *testing.T) {
	s := made(t, api.App, 100)
	want := [3]int64{}
	for i, mark := range []int{api.Unmarked, 3, -1, 4, math.MinInt, math.MaxInt, api.Capable, api.Capable, api.Marked, api.Unmarked, api.Capable, api.Marked} {
		switch mark {
		case 1:
			want[0]++
		case 2:
			want[2]++
		}
		take(t, s, 1, int64(i), i%3 == 0, mark, true)
		take(t, s, 1, int64(i), i%3 == 0, api.Capable, false)
		ack(t, s, 1, 0, 0, want, 0, int64(i))
	}
	if want != [3]int64{3, 0, 2} {
		t.Fatal("the test's own count is wrong")
	}
	s.Forget(100)
	noAck(t, s, 1)
	takeAll(t, s, 1, 50)
	ack(t, s, 1, 0, 0, want, 50, 50)
}

// One of the counts is enough for Marks.
func TestOneMark(t *testing.T) {
	for mark, want := range map[int][3]int64{api.Unmarked: {}, api.Capable: {1, 0, 0}, api.Marked: {0, 0, 1}} {
		s := made(t, api.Initial, 100)
		take(t, s, 1, 4, true, mark, true)
		ack(t, s, 1, 0, 0, want, 4, 4)
	}
}

// spoil writes over a list and the room behind it.
func spoil(l []api.Run) {
	l = l[:cap(l)]
	for i := range l {
		l[i] = api.Run{Lo: -77, Hi: -70}
	}
	_ = append(l[:0], api.Run{Lo: 1, Hi: 2}, api.Run{Lo: 3, Hi: 4})
}

func TestAnswersAreNewMemory(t *testing.T) {
	s := made(t, api.App, 100)
	takeAll(t, s, 1, 1, 3, 5, 7, 8, 9)
	for range 3 {
		f, _ := s.Ack(2, 0)
		g, _ := s.Ack(2, 0)
		up, again := s.Runs(), s.Runs()
		spoil(f.Runs)
		spoil(up)
		if !slices.Equal(g.Runs, pairs(7, 9, 5, 5, 3, 3, 1, 1)) || !slices.Equal(again, pairs(1, 1, 3, 3, 5, 5, 7, 9)) {
			t.Errorf("R3: what an answer's owner writes is seen in another answer: %d, %d", g.Runs, again)
		}
		holds(t, "R3: what Ack and Runs answered, written over", s, state{api.Never, false, 9, -1, pairs(1, 1, 3, 3, 5, 5, 7, 9)})
		ack(t, s, 2, 0, 1, [3]int64{}, 7, 9, 5, 5, 3, 3, 1, 1)
	}
	old, l := first(s.Ack(2, 0)), s.Runs()
	takeAll(t, s, 3, 2, 4, 20)
	s.Forget(4)
	if !slices.Equal(old.Runs, pairs(7, 9, 5, 5, 3, 3, 1, 1)) || !slices.Equal(l, pairs(1, 1, 3, 3, 5, 5, 7, 9)) {
		t.Errorf("R3: an answer changes behind its back: %d, %d", old.Runs, l)
	}
}

func first(f api.Frame, _ bool) api.Frame { return f }

// Two that are used in turns answer as each would by itself.
func TestTwoInTurns(t *testing.T) {
	play := func(s *Seen, i int64) []any {
		take := s.Take(10*i, 3*i%17, i%2 == 0, int(i%3))
		f, is := s.Ack(10*i+3, int(i%4))
		s.Forget(i - 12)
		return []any{take, f, is, s.Deadline(), s.Any(), s.Largest(), s.Floor(), s.Runs()}
	}
	other := func(s *Seen, i int64) {
		s.Take(7000+i, 5*i, true, api.Marked)
		s.Forget(i)
	}
	alone, a, b := made(t, api.App, 100), made(t, api.App, 100), made(t, api.Handshake, 7)
	for i := int64(0); i < 60; i++ {
		want := play(alone, i)
		other(b, i)
		if got := play(a, i); !reflect.DeepEqual(got, want) {
			t.Fatalf("R4: step %d: %v, want %v", i, got, want)
		}
	}
}
