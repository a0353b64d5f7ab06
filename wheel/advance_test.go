package wheel

import (
	"math"
	"slices"
	"testing"

	"portage/api"
)

// borders is times at, and beside, each border of the wheels: of 64, of 64 times 64 and so on, once, twice and 63 times; rising.
func borders() []int64 {
	l := []int64{0, 1, 2, api.MaxTime - 1, api.MaxTime, api.MaxTime + 1, api.Never - 2, api.Never - 1}
	for i := 1; i <= 10; i++ {
		for _, times := range []int64{1, 2, 63} {
			at := times << (6 * i)
			if at > api.Never || at>>(6*i) != times {
				continue
			}
			l = append(l, at-1, at, at+1)
		}
	}
	l = slices.DeleteFunc(l, func(at int64) bool { return at >= api.Never })
	slices.Sort(l)
	return slices.Compact(l)
}

// starts is those of them at which a clock may stand, and some that lie anywhere.
func starts() []int64 {
	l := slices.DeleteFunc(borders(), func(at int64) bool { return at > api.MaxTime })
	return append(l, 77, 1<<36+77, 0x2aaaaaaaaaaaa, 0x1555555555555)
}

// numbered gives times numbers that fall with them or rise: an order by numbers alone is told apart from one by times.
func numbered(times []int64, falling bool) []timer {
	var l []timer
	for i, at := range times {
		id := i
		if falling {
			id = 4095 - i
		}
		l = append(l, timer{id, at})
	}
	return l
}

// upTo is the numbers of those that are due at a time, and the others.
func upTo(l []timer, now int64) ([]int, []timer) {
	var ids []int
	for i, x := range l {
		if x.at > now {
			return ids, l[i:]
		}
		ids = append(ids, x.id)
	}
	return ids, nil
}

func TestOneDeadlineAtEachBorder(t *testing.T) {
	for _, start := range starts() {
		for _, at := range borders() {
			w := armed(t, start, timer{9, at})
			holds(t, "one", w, start, timer{9, at})
			if at-1 >= start {
				due(t, w, at-1)
				holds(t, "P7.8: just below Next", w, min(at-1, api.MaxTime), timer{9, at})
			}
			if at > api.MaxTime {
				due(t, w, math.MaxInt64)
				holds(t, "P7.5: never due", w, api.MaxTime, timer{9, at})
				continue
			}
			due(t, w, at, 9)
			holds(t, "P7.8: at Next", w, max(at, start))
		}
	}
}

func TestAllBordersInOneStep(t *testing.T) {
	for _, start := range starts() {
		for _, to := range borders() {
			for _, falling := range []bool{false, true} {
				l := numbered(borders(), falling)
				w := armed(t, start, l...)
				clock := min(max(start, to), api.MaxTime)
				ids, left := upTo(l, clock)
				due(t, w, to, ids...)
				if got := told(w); !slices.Equal(got, left) || w.Now() != clock {
					t.Fatalf("P7.5: from %d to %d: left is %d, want %d", start, to, got, left)
				}
				sound(t, "one step", w)
			}
		}
	}
}

func TestAllBordersStepByStep(t *testing.T) {
	for _, start := range starts() {
		for _, falling := range []bool{false, true} {
			left := numbered(borders(), falling)
			w := armed(t, start, left...)
			var ids []int
			for _, to := range borders() {
				ids, left = upTo(left, min(max(start, to), api.MaxTime))
				due(t, w, to, ids...)
				holds(t, "step by step", w, min(max(start, to), api.MaxTime), left...)
			}
		}
	}
}

// From one Next to the next all are told, each at its own time.
func TestNextByNext(t *testing.T) {
	for _, start := range starts() {
		w := armed(t, start, numbered(borders(), true)...)
		for w.Next() <= api.MaxTime {
			at, first := w.Next(), told(w)[0]
			if at > w.Now() {
				due(t, w, at-1)
			}
			got := w.Advance(at)
			if len(got) == 0 || got[0] != first.id || first.at != at {
				t.Fatalf("P7.8: from %d on: Advance(%d) = %d, ahead of all was %d", start, at, got, first)
			}
		}
		for _, x := range told(w) {
			if x.at <= api.MaxTime {
				t.Errorf("P7.8: %d is left", x)
			}
		}
	}
}

func TestAdvanceSetsTheClock(t *testing.T) {
	w := armed(t, 100, timer{1, 100}, timer{2, 101}, timer{3, api.MaxTime}, timer{4, api.MaxTime + 1})
	for _, c := range []struct {
		now, clock int64
		ids        []int
	}{
		{math.MinInt64, 100, []int{1}}, {-1, 100, nil}, {0, 100, nil}, {99, 100, nil}, {100, 100, nil}, {101, 101, []int{2}},
		{100, 101, nil}, {5000, 5000, nil}, {101, 5000, nil}, {api.MaxTime - 1, api.MaxTime - 1, nil},
		{api.MaxTime + 1, api.MaxTime, []int{3}}, {api.Never, api.MaxTime, nil}, {math.MaxInt64, api.MaxTime, nil}, {0, api.MaxTime, nil},
	} {
		due(t, w, c.now, c.ids...)
		if w.Now() != c.clock {
			t.Errorf("P7.5: behind Advance(%d) the clock is %d, want %d", c.now, w.Now(), c.clock)
		}
	}
	holds(t, "at the end", w, api.MaxTime, timer{4, api.MaxTime + 1})
}

// What has passed is due at the next Advance, in order with what is due at the clock and behind it.
func TestWhatHasPassed(t *testing.T) {
	for _, now := range []int64{0, 199, 200, 201, 255, 256, 4096, api.MaxTime} {
		w := armed(t, 200, timer{1, 200}, timer{2, 199}, timer{6, 0}, timer{5, 0}, timer{4, 128}, timer{3, 199}, timer{0, 201}, timer{7, 256})
		ids := []int{5, 6, 4, 2, 3, 1}
		if now >= 201 {
			ids = append(ids, 0)
		}
		if now >= 256 {
			ids = append(ids, 7)
		}
		if w.Next() != 0 {
			t.Errorf("P7.4: Next = %d, want 0", w.Next())
		}
		due(t, w, now, ids...)
		due(t, w, now)
		w.Arm(9, 3)
		w.Arm(8, 3)
		if w.Next() != 3 {
			t.Errorf("P7.4: Next = %d, want 3, which has passed", w.Next())
		}
		due(t, w, 0, 8, 9)
	}
}

// What has passed stays ahead in Next and All when it is armed behind others, and can be cancelled and armed again.
func TestWhatHasPassedIsHeld(t *testing.T) {
	w := armed(t, 130, timer{1, 130}, timer{2, 20}, timer{3, 131}, timer{4, 60})
	holds(t, "passed", w, 130, timer{2, 20}, timer{4, 60}, timer{1, 130}, timer{3, 131})
	w.Cancel(2)
	holds(t, "passed, one cancelled", w, 130, timer{4, 60}, timer{1, 130}, timer{3, 131})
	w.Arm(4, 131)
	holds(t, "passed, one armed again", w, 130, timer{1, 130}, timer{3, 131}, timer{4, 131})
	w.Arm(3, 0)
	due(t, w, 131, 3, 1, 4)
}

func TestManyAtOneTime(t *testing.T) {
	for _, at := range []int64{0, 99, 100, 101, 127, 128, 5000, 1 << 30, api.MaxTime} {
		w := New(100)
		var want []int
		for i := range 500 {
			w.Arm(i*29%500, at) // 29 and 500 have no divisor in common: each number once
			want = append(want, i)
		}
		w.Arm(4000, at+1)
		if at > 100 {
			due(t, w, at-1)
		}
		if w.Next() != at || w.Len() != 501 {
			t.Errorf("P7.4: Next, Len = %d, %d, want %d, 501", w.Next(), w.Len(), at)
		}
		if at < 100 {
			w.Arm(4000, 101)
		}
		due(t, w, at, want...)
	}
}

// In one slot of a slow ring lie deadlines of different times: they are told by their times, then by their numbers.
func TestOneSlotOfDifferentTimes(t *testing.T) {
	for _, base := range []int64{64, 4096, 2 * 4096, 1 << 18, 63 << 18, 1 << 36, 1 << 48} {
		w := armed(t, 3, timer{1, base + 40}, timer{9, base + 2}, timer{2, base + 63}, timer{7, base + 40}, timer{5, base}, timer{3, base + 2})
		holds(t, "of one slot", w, 3,
			timer{5, base}, timer{3, base + 2}, timer{9, base + 2}, timer{1, base + 40}, timer{7, base + 40}, timer{2, base + 63})
		due(t, w, base-1)
		due(t, w, base+1, 5)
		if w.Next() != base+2 {
			t.Errorf("P7.4: Next = %d, want %d", w.Next(), base+2)
		}
		due(t, w, base+40, 3, 9, 1, 7)
		holds(t, "one left", w, base+40, timer{2, base + 63})
		due(t, w, base+64, 2)
	}
}

// A step at a time, over the borders of the first rings: each deadline is told at its own time, none twice.
func TestEachMicrosecond(t *testing.T) {
	for _, from := range []int64{0, 3900, 1<<18 - 200, 1<<48 - 200} {
		w := New(from)
		for i := range int64(400) {
			w.Arm(int(i), from+i+i%3)
		}
		seen := 0
		for now := from; now <= from+410; now++ {
			for _, id := range w.Advance(now) {
				if at := from + int64(id) + int64(id)%3; at != now {
					t.Fatalf("P7.5: %d of time %d is told at %d", id, at, now)
				}
				seen++
			}
		}
		if seen != 400 {
			t.Errorf("P7.5: %d are told, want 400", seen)
		}
		holds(t, "all told", w, from+410)
	}
}

// In how many steps doesn't matter: all ways from border to border tell the same.
func TestStepsDoNotMatter(t *testing.T) {
	for _, start := range []int64{0, 63, 100, 4095, 1<<18 - 1, 1<<36 + 77} {
		for _, a := range borders() {
			for _, b := range []int64{a, a + 1, a + 63, a + 64, 2*a + 1, a + 1<<18, api.MaxTime, api.Never} {
				l := numbered(borders(), true)
				once, twice := armed(t, start, l...), armed(t, start, l...)
				got := append(twice.Advance(a), twice.Advance(b)...)
				if want := once.Advance(b); !slices.Equal(got, want) {
					t.Fatalf("P7.7: from %d to %d to %d: %d, at once %d", start, a, b, got, want)
				}
				if !slices.Equal(told(twice), told(once)) || twice.Now() != once.Now() || twice.Next() != once.Next() {
					t.Fatalf("P7.7: from %d to %d to %d another wheel is left", start, a, b)
				}
			}
		}
	}
}

func TestAdvanceGivesNewMemory(t *testing.T) {
	w := armed(t, 0, timer{1, 5}, timer{2, 5}, timer{3, 70}, timer{4, 71}, timer{5, 5000})
	for _, c := range []struct {
		now  int64
		want []int
	}{{5, []int{1, 2}}, {71, []int{3, 4}}, {5000, []int{5}}} {
		got := w.Advance(c.now)
		if !slices.Equal(got, c.want) {
			t.Errorf("P7.5: Advance(%d) = %d, want %d", c.now, got, c.want)
		}
		got = got[:cap(got)]
		for i := range got {
			got[i] = -7
		}
		w.Arm(c.want[0], 6000)
		sound(t, "R3: behind an answer that was written over", w)
	}
	holds(t, "R3: behind answers that were written over", w, 5000, timer{1, 6000}, timer{3, 6000}, timer{5, 6000})
}
