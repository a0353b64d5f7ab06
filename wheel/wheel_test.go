package wheel

import (
	"math"
	"slices"
	"testing"

	"portage/api"
)

// A timer is a deadline as All gives it.
type timer struct {
	id int
	at int64
}

// told is what All gives.
func told(w *Wheel) []timer {
	var l []timer
	for id, at := range w.All() {
		l = append(l, timer{id, at})
	}
	return l
}

// armed makes a wheel with these deadlines.
func armed(t *testing.T, now int64, l ...timer) *Wheel {
	t.Helper()
	w := New(now)
	for _, x := range l {
		if err := w.Arm(x.id, x.at); err != api.OK {
			t.Fatalf("P7.2: Arm(%d, %d) = %d", x.id, x.at, err)
		}
	}
	return w
}

// holds fails if the wheel holds other deadlines than these, told in order, or has another clock, by any of its calls.
func holds(t *testing.T, say string, w *Wheel, now int64, want ...timer) {
	t.Helper()
	if got := told(w); !slices.Equal(got, want) {
		t.Errorf("P7.6: %s: All gives %d, want %d", say, got, want)
	}
	next := int64(api.Never)
	if len(want) > 0 {
		next = want[0].at
	}
	if w.Next() != next || w.Now() != now || w.Len() != len(want) {
		t.Errorf("P7.4: %s: Next, Now, Len = %d, %d, %d, want %d, %d, %d", say, w.Next(), w.Now(), w.Len(), next, now, len(want))
	}
	for _, x := range want {
		if at, err := w.When(x.id); at != x.at || err != api.OK {
			t.Errorf("P7.4: %s: When(%d) = %d, %d, want %d", say, x.id, at, err, x.at)
		}
	}
	sound(t, say, w)
}

// due fails if Advance answers other numbers than these.
func due(t *testing.T, w *Wheel, now int64, want ...int) {
	t.Helper()
	clock := w.Now()
	if got := w.Advance(now); !slices.Equal(got, want) {
		t.Errorf("P7.5: from %d on: Advance(%d) = %d, want %d", clock, now, got, want)
	}
}

func TestExamples(t *testing.T) {
	w := New(100)
	holds(t, "a new one", w, 100)
	due(t, w, 100)
	for _, c := range []struct {
		id   int
		at   int64
		want api.Errno
	}{
		{7, 200, api.OK}, {5, 163, api.OK}, {9, 163, api.OK}, {7, 170, api.OK},
		{4096, 1, api.ErrArg}, {-1, 1, api.ErrArg}, {1, -1, api.ErrArg}, {1, api.Never, api.ErrArg},
		{3, 40, api.OK},
	} {
		if err := w.Arm(c.id, c.at); err != c.want {
			t.Errorf("P7.2: Arm(%d, %d) = %d, want %d", c.id, c.at, err, c.want)
		}
	}
	if at, err := w.When(8); at != 0 || err != api.ErrNone {
		t.Errorf("P7.4: When(8) = %d, %d", at, err)
	}
	holds(t, "the chapter's", w, 100, timer{3, 40}, timer{5, 163}, timer{9, 163}, timer{7, 170})
	due(t, w, 90, 3)
	holds(t, "behind Advance(90)", w, 100, timer{5, 163}, timer{9, 163}, timer{7, 170})
	due(t, w, 163, 5, 9)
	if err := w.Cancel(5); err != api.ErrNone {
		t.Errorf("P7.3: Cancel(5) = %d", err)
	}
	if err := w.Cancel(7); err != api.OK {
		t.Errorf("P7.3: Cancel(7) = %d", err)
	}
	w.Arm(0, api.MaxTime)
	w.Arm(1, api.MaxTime+1)
	due(t, w, api.Never, 0)
	holds(t, "at the end of time", w, api.MaxTime, timer{1, api.MaxTime + 1})
	due(t, w, api.Never)
	holds(t, "at the end of time, again", w, api.MaxTime, timer{1, api.MaxTime + 1})
}

func TestNew(t *testing.T) {
	for _, c := range []struct{ now, clock int64 }{
		{0, 0}, {1, 1}, {63, 63}, {64, 64}, {1 << 36, 1 << 36}, {api.MaxTime - 1, api.MaxTime - 1}, {api.MaxTime, api.MaxTime},
		{-1, 0}, {-64, 0}, {math.MinInt64, 0},
		{api.MaxTime + 1, api.MaxTime}, {api.Never - 1, api.MaxTime}, {api.Never, api.MaxTime}, {math.MaxInt64, api.MaxTime},
	} {
		w := New(c.now)
		if w == nil {
			t.Fatalf("P7.1: New(%d) = nil", c.now)
		}
		if w.Now() != c.clock {
			t.Errorf("P7.1: New(%d) has the clock %d, want %d", c.now, w.Now(), c.clock)
		}
		holds(t, "a new one", w, c.clock)
		due(t, w, c.clock)
		due(t, w, math.MaxInt64)
		holds(t, "a new one at the end of time", w, api.MaxTime)
	}
}

func TestArmTakesWhatMayBe(t *testing.T) {
	for _, now := range []int64{0, 1, 64, 5000, api.MaxTime} {
		for _, id := range []int{0, 1, 63, 64, 4094, 4095} {
			for _, at := range []int64{0, 1, now, now + 1, max(now-1, 0), api.MaxTime, api.MaxTime + 1, api.Never - 1} {
				w := New(now)
				if err := w.Arm(id, at); err != api.OK {
					t.Errorf("P7.2: Arm(%d, %d) = %d, want OK", id, at, err)
				}
				holds(t, "one armed", w, now, timer{id, at})
			}
		}
	}
}

func TestArmRefuses(t *testing.T) {
	w := armed(t, 50, timer{0, 70}, timer{4095, 60})
	ids := []int{-1, -2, -4096, 4096, 4097, 8191, math.MinInt, math.MaxInt}
	times := []int64{-1, -50, math.MinInt64, api.Never, api.Never + 1, math.MaxInt64}
	refused := func(id int, at int64) {
		if err := w.Arm(id, at); err != api.ErrArg {
			t.Errorf("P7.2: Arm(%d, %d) = %d, want ErrArg", id, at, err)
		}
	}
	for _, id := range ids {
		for _, at := range append(times, 0, 60, 100, api.Never-1) {
			refused(id, at)
		}
	}
	for _, at := range times {
		for _, id := range []int{0, 1, 4095} {
			refused(id, at)
		}
	}
	holds(t, "R2: behind what was refused", w, 50, timer{4095, 60}, timer{0, 70})
	due(t, w, 100, 4095, 0)
}

// There is always room: for each number a deadline, and for each another one.
func TestArmAllNumbers(t *testing.T) {
	w := New(1000)
	for _, shift := range []int64{0, 64, 1 << 20} {
		var want []timer
		for id := range api.MaxTimers {
			at := 3*int64(id) + shift
			if err := w.Arm(id, at); err != api.OK {
				t.Fatalf("P7.2: Arm(%d, %d) = %d, want OK", id, at, err)
			}
			want = append(want, timer{id, at})
		}
		holds(t, "all numbers", w, 1000, want...)
	}
	got := w.Advance(api.MaxTime)
	if len(got) != api.MaxTimers || !slices.IsSorted(got) || got[0] != 0 || got[4095] != 4095 {
		t.Errorf("P7.5: of all numbers %d are due", len(got))
	}
	holds(t, "all taken out", w, api.MaxTime)
}

// What a number had is gone with what it is given, be that earlier or later, in the same slot or another.
func TestArmAgain(t *testing.T) {
	times := []int64{0, 99, 100, 101, 127, 128, 163, 164, 4095, 4096, 1 << 18, 1 << 40, api.MaxTime, api.MaxTime + 1, api.Never - 1}
	for _, a := range times {
		for _, b := range times {
			twice := armed(t, 100, timer{1, a}, timer{2, 128}, timer{1, b})
			once := armed(t, 100, timer{2, 128}, timer{1, b})
			holds(t, "P7.9: armed twice", twice, 100, told(once)...)
			for _, now := range []int64{100, 127, 128, 4096, api.MaxTime} {
				due(t, twice, now, once.Advance(now)...)
				holds(t, "P7.9: armed twice, later", twice, now, told(once)...)
			}
		}
	}
}

func TestArmThenCancel(t *testing.T) {
	for _, at := range []int64{0, 99, 100, 101, 128, 164, 4096, 1 << 40, api.MaxTime, api.MaxTime + 1, api.Never - 1} {
		w := armed(t, 100, timer{1, 128}, timer{3, 99})
		w.Arm(2, at)
		if err := w.Cancel(2); err != api.OK {
			t.Errorf("P7.3: Cancel of one armed at %d = %d", at, err)
		}
		holds(t, "P7.9: armed and cancelled", w, 100, timer{3, 99}, timer{1, 128})
		if err := w.Cancel(2); err != api.ErrNone {
			t.Errorf("P7.3: Cancel of one cancelled = %d, want ErrNone", err)
		}
		due(t, w, api.MaxTime, 3, 1)
	}
}

// Of several in a slot each may go: the first, the last and one in the midst.
func TestCancelInASlot(t *testing.T) {
	all := []timer{{4, 70}, {0, 71}, {3, 71}, {1, 90}, {2, 100}}
	for _, order := range [][]int{{0, 1, 2, 3, 4}, {4, 3, 2, 1, 0}, {2, 0, 4, 1, 3}, {1, 3, 2, 4, 0}} {
		w := armed(t, 5, all[2], all[0], all[4], all[1], all[3])
		left := slices.Clone(all)
		for _, id := range order {
			if err := w.Cancel(id); err != api.OK {
				t.Errorf("P7.3: Cancel(%d) = %d", id, err)
			}
			left = slices.DeleteFunc(left, func(x timer) bool { return x.id == id })
			holds(t, "some cancelled", w, 5, left...)
			if at, err := w.When(id); at != 0 || err != api.ErrNone {
				t.Errorf("P7.4: When(%d) of what was cancelled = %d, %d", id, at, err)
			}
		}
		due(t, w, 200)
	}
}

func TestNumbersThatThereAreNot(t *testing.T) {
	w := armed(t, 9, timer{0, 10}, timer{4095, 4000}, timer{7, 12})
	due(t, w, 12, 0, 7)
	for _, id := range []int{0, 7, 1, 8, 4094, 4096, -1, -7, math.MinInt, math.MaxInt} {
		if err := w.Cancel(id); err != api.ErrNone {
			t.Errorf("P7.3: Cancel(%d) = %d, want ErrNone", id, err)
		}
		if at, err := w.When(id); at != 0 || err != api.ErrNone {
			t.Errorf("P7.4: When(%d) = %d, %d, want 0, ErrNone", id, at, err)
		}
	}
	holds(t, "asked for others", w, 12, timer{4095, 4000})
}

func TestAskingChangesNothing(t *testing.T) {
	l := []timer{{3, 40}, {5, 163}, {9, 163}, {7, 170}, {8, 5000}, {1, api.MaxTime + 1}}
	w := armed(t, 100, l...)
	for range 5 {
		w.Next()
		w.Now()
		w.Len()
		for id := -2; id < 12; id++ {
			w.When(id)
		}
		holds(t, "P7.4: asked", w, 100, l...)
	}
	due(t, w, 163, 3, 5, 9)
	for range 5 {
		w.Next()
		holds(t, "P7.4: asked behind an Advance", w, 163, l[3:]...)
	}
}
