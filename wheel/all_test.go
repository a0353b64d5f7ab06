package wheel

import (
	"iter"
	"slices"
	"testing"

	"portage/api"
)

// collect goes through a range to its end.
func collect(seq iter.Seq2[int, int64]) []timer {
	var l []timer
	for id, at := range seq {
		l = append(l, timer{id, at})
	}
	return l
}

func some(t *testing.T) (*Wheel, []timer) {
	l := []timer{{8, 0}, {2, 99}, {1, 100}, {4, 100}, {0, 101}, {6, 128}, {3, 5000}, {5, api.MaxTime}, {7, api.Never - 1}}
	return armed(t, 100, l[3], l[8], l[0], l[5], l[2], l[7], l[1], l[6], l[4]), l
}

func TestAllOfNone(t *testing.T) {
	w := New(5)
	if w.All() == nil {
		t.Fatal("P7.6: All answers nil")
	}
	if l := collect(w.All()); len(l) != 0 {
		t.Errorf("P7.6: a wheel without deadlines gives %d", l)
	}
	w.Arm(1, 2)
	w.Advance(2)
	if l := collect(w.All()); len(l) != 0 {
		t.Errorf("P7.6: a wheel without deadlines any more gives %d", l)
	}
}

func TestAllInOrder(t *testing.T) {
	w, l := some(t)
	for range 3 {
		if got := collect(w.All()); !slices.Equal(got, l) {
			t.Errorf("P7.6: All gives %d, want %d", got, l)
		}
	}
	holds(t, "P7.6: behind All", w, 100, l...)
}

func TestAllLeftEarly(t *testing.T) {
	w, l := some(t)
	seq := w.All()
	for stop := 1; stop <= len(l)+1; stop++ {
		var got []timer
		for id, at := range seq {
			got = append(got, timer{id, at})
			if len(got) == stop {
				break
			}
		}
		if !slices.Equal(got, l[:min(stop, len(l))]) {
			t.Errorf("P7.6: left behind %d, All gave %d", stop, got)
		}
		calls := 0
		seq(func(int, int64) bool {
			calls++
			return calls < stop
		})
		if calls != min(stop, len(l)) {
			t.Errorf("P7.6: left behind %d, All gave %d in all", stop, calls)
		}
	}
	if got := collect(seq); !slices.Equal(got, l) {
		t.Errorf("P7.6: gone through again, All gives %d, want %d", got, l)
	}
	holds(t, "P7.6: left early", w, 100, l...)
}

// A range that was asked for earlier gives what is there when one begins to go through it.
func TestAllBeginsWhenItIsGoneThrough(t *testing.T) {
	w := New(10)
	seq := w.All()
	w.Arm(3, 20)
	w.Arm(2, 20)
	if got := collect(seq); !slices.Equal(got, []timer{{2, 20}, {3, 20}}) {
		t.Errorf("P7.6: armed behind All: %d", got)
	}
	w.Arm(3, 5)
	if got := collect(seq); !slices.Equal(got, []timer{{3, 5}, {2, 20}}) {
		t.Errorf("P7.6: armed again behind All: %d", got)
	}
	w.Advance(15)
	if got := collect(seq); !slices.Equal(got, []timer{{2, 20}}) {
		t.Errorf("P7.6: Advance behind All: %d", got)
	}
	w.Cancel(2)
	if got := collect(seq); len(got) != 0 {
		t.Errorf("P7.6: cancelled behind All: %d", got)
	}
}

func TestAllWithinItself(t *testing.T) {
	w, l := some(t)
	seq := w.All()
	var outer []timer
	for id, at := range seq {
		outer = append(outer, timer{id, at})
		if inner := collect(seq); !slices.Equal(inner, l) {
			t.Errorf("P7.6: within itself, All gives %d, want %d", inner, l)
		}
		for range seq {
			break
		}
	}
	if !slices.Equal(outer, l) {
		t.Errorf("P7.6: around itself, All gives %d, want %d", outer, l)
	}
}

// Whatever is done with the wheel meanwhile, a range gives what was there as it began; the next one what is there then.
func TestAllWhileTheWheelIsChanged(t *testing.T) {
	changes := []struct {
		name   string
		change func(w *Wheel, step int)
	}{
		{"cancel", func(w *Wheel, step int) { w.Cancel(step) }},
		{"cancel from behind", func(w *Wheel, step int) { w.Cancel(8 - step) }},
		{"arm others", func(w *Wheel, step int) { w.Arm(100+step, 120+int64(step)) }},
		{"arm ahead", func(w *Wheel, step int) { w.Arm(8-step, int64(step)) }},
		{"arm at the end", func(w *Wheel, step int) { w.Arm(step, api.Never-2) }},
		{"advance", func(w *Wheel, step int) { w.Advance(100 + 60*int64(step)) }},
		{"advance to the end", func(w *Wheel, step int) { w.Advance(api.Never) }},
		{"all at once", func(w *Wheel, step int) {
			w.Advance(w.Next())
			w.Arm(step, w.Now())
			w.Cancel(8 - step)
		}},
	}
	for _, c := range changes {
		w, l := some(t)
		twin, _ := some(t)
		seq := w.All()
		var got []timer
		for id, at := range seq {
			c.change(w, len(got))
			c.change(twin, len(got))
			sound(t, c.name, w)
			if inner, want := collect(seq), told(twin); !slices.Equal(inner, want) {
				t.Errorf("P7.6: %s: begun meanwhile, All gives %d, want %d", c.name, inner, want)
			}
			got = append(got, timer{id, at})
		}
		if !slices.Equal(got, l) {
			t.Errorf("P7.6: %s: All gives %d, want %d", c.name, got, l)
		}
		holds(t, c.name, w, twin.Now(), told(twin)...)
	}
}

// Two ranges in turns, and one that is left and never finished, have each its own beginning.
func TestAllInTurns(t *testing.T) {
	w, l := some(t)
	first, stopFirst := iter.Pull2(w.All())
	defer stopFirst()
	id, at, ok := first()
	if (timer{id, at}) != l[0] || !ok {
		t.Errorf("P7.6: the first is %d, %d", id, at)
	}
	w.Advance(5000)
	second, stopSecond := iter.Pull2(w.All())
	defer stopSecond()
	for i, want := range []timer{l[7], l[8]} {
		if id, at, ok := second(); (timer{id, at}) != want || !ok {
			t.Errorf("P7.6: in turns, the second range's %d-th is %d, %d, want %d", i, id, at, want)
		}
		w.Cancel(5)
		if id, at, ok := first(); (timer{id, at}) != l[1+i] || !ok {
			t.Errorf("P7.6: in turns, the first range's next is %d, %d, want %d", id, at, l[1+i])
		}
	}
	if _, _, ok := second(); ok {
		t.Error("P7.6: in turns, the second range gives more than there was")
	}
}
