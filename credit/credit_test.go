package credit

import (
	"fmt"
	"math"
	"testing"

	"portage/api"
)

// Numbers that a limit or a window may not be.
var wrong = []int64{math.MinInt64, math.MinInt64 + 1, -api.MaxNumber, -2, -1, api.MaxNumber + 1, api.MaxNumber + 2, math.MaxInt64 - 1, math.MaxInt64}

func madeOut(t *testing.T, limit int64) *Out {
	t.Helper()
	o, err := NewOut(limit)
	if o == nil || err != api.OK {
		t.Fatalf("P17.1: NewOut(%d) = %v, %d", limit, o, err)
	}
	return o
}

func madeIn(t *testing.T, window int64) *In {
	t.Helper()
	i, err := NewIn(window)
	if i == nil || err != api.OK {
		t.Fatalf("P17.6: NewIn(%d) = %v, %d", window, i, err)
	}
	return i
}

// outIs looks at all that an Out tells of itself without changing: its limit, what was used, which limit was told, and by these Room; and at Wants.
func outIs(t *testing.T, say string, o *Out, limit, used, told int64, wants bool) {
	t.Helper()
	for range 2 {
		if v := o.View(); v != (api.OutView{Limit: limit, Used: used, Told: told}) {
			t.Errorf("%s: View: %+v, want %d, %d, %d", say, v, limit, used, told)
		}
		if got := o.Room(); got != limit-used {
			t.Errorf("%s: Room() = %d, want %d", say, got, limit-used)
		}
		if got := o.Wants(); got != wants {
			t.Errorf("%s: Wants() = %v", say, got)
		}
	}
}

// inIs looks at all that an In tells of itself without changing.
func inIs(t *testing.T, say string, i *In, limit, taken, consumed, window int64, wants bool) {
	t.Helper()
	for range 2 {
		if v := i.View(); v != (api.InView{Limit: limit, Taken: taken, Consumed: consumed, Window: window}) {
			t.Errorf("%s: View: %+v, want %d, %d, %d, %d", say, v, limit, taken, consumed, window)
		}
		if got := i.Wants(); got != wants {
			t.Errorf("%s: Wants() = %v", say, got)
		}
	}
}

func uses(t *testing.T, say string, o *Out, n int64, want api.Errno) {
	t.Helper()
	ahead := o.View()
	if got := o.Use(n); got != want {
		t.Errorf("%s: Use(%d) of %+v = %d, want %d", say, n, ahead, got, want)
	}
	if want == api.OK {
		ahead.Used += n
	}
	if v := o.View(); v != ahead {
		t.Errorf("%s: behind Use(%d): %+v, want %+v", say, n, v, ahead)
	}
}

func raises(t *testing.T, say string, o *Out, limit int64, want bool) {
	t.Helper()
	if got := o.Raise(limit); got != want {
		t.Errorf("%s: Raise(%d) = %v", say, limit, got)
	}
}

// blocks asks Blocked for a limit; -1: it tells none.
func blocks(t *testing.T, say string, o *Out, want int64) {
	t.Helper()
	checkTold(t, say+": Blocked", want, o.Blocked)
}

// updates asks Update for a limit; -1: it tells none.
func updates(t *testing.T, say string, i *In, want int64) {
	t.Helper()
	checkTold(t, say+": Update", want, i.Update)
}

func checkTold(t *testing.T, say string, want int64, ask func() (int64, bool)) {
	t.Helper()
	is := want >= 0
	if n, got := ask(); got != is || n != max(want, 0) {
		t.Errorf("%s: %d, %v, want %d, %v", say, n, got, max(want, 0), is)
	}
}

func takes(t *testing.T, say string, i *In, n int64, want api.Errno) {
	t.Helper()
	ahead := i.View()
	if got := i.Take(n); got != want {
		t.Errorf("%s: Take(%d) of %+v = %d, want %d", say, n, ahead, got, want)
	}
	if want == api.OK {
		ahead.Taken += n
	}
	if v := i.View(); v != ahead {
		t.Errorf("%s: behind Take(%d): %+v, want %+v", say, n, v, ahead)
	}
}

func consumes(t *testing.T, say string, i *In, n int64, want api.Errno) {
	t.Helper()
	ahead := i.View()
	if got := i.Consume(n); got != want {
		t.Errorf("%s: Consume(%d) of %+v = %d, want %d", say, n, ahead, got, want)
	}
	if want == api.OK {
		ahead.Consumed += n
	}
	if v := i.View(); v != ahead {
		t.Errorf("%s: behind Consume(%d): %+v, want %+v", say, n, v, ahead)
	}
}

func TestExamples(t *testing.T) {
	const say = "Examples"
	i, o := madeIn(t, 10), madeOut(t, 10)
	uses(t, say, o, 11, api.ErrCreditLimit)
	uses(t, say, o, 10, api.OK)
	outIs(t, say, o, 10, 10, -1, true)
	uses(t, say, o, 0, api.OK)
	blocks(t, say, o, 10)
	blocks(t, say, o, -1)
	o.Again(9)
	outIs(t, say, o, 10, 10, 10, false)
	o.Again(10)
	blocks(t, say, o, 10)

	takes(t, say, i, 11, api.ErrCreditLimit)
	takes(t, say, i, 10, api.OK)
	consumes(t, say, i, 4, api.OK)
	updates(t, say, i, -1)
	consumes(t, say, i, 7, api.ErrArg)
	consumes(t, say, i, 1, api.OK)
	updates(t, say, i, 15)
	updates(t, say, i, -1)
	i.Again(10)
	inIs(t, say, i, 15, 10, 5, 10, false)
	i.Again(15)
	updates(t, say, i, 15)
	consumes(t, say, i, 2, api.OK)
	i.Again(15)
	updates(t, say, i, 17)

	raises(t, say, o, 15, true)
	raises(t, say, o, 12, false)
	outIs(t, say, o, 15, 10, 10, false)
}

func TestExamplesOfSmallWindows(t *testing.T) {
	const say = "Examples"
	i := madeIn(t, 1)
	takes(t, say, i, 1, api.OK)
	consumes(t, say, i, 1, api.OK)
	updates(t, say, i, 2)
	updates(t, say, madeIn(t, 0), -1)
	i = madeIn(t, 3)
	takes(t, say, i, 3, api.OK)
	consumes(t, say, i, 1, api.OK)
	updates(t, say, i, -1)
	consumes(t, say, i, 1, api.OK)
	updates(t, say, i, 5)
}

// Two know nothing of one another (R4).
func TestTwoOutsInTurns(t *testing.T) {
	a, b := madeOut(t, 3), madeOut(t, 7)
	uses(t, "R4", a, 3, api.OK)
	uses(t, "R4", b, 2, api.OK)
	outIs(t, "R4: the first", a, 3, 3, -1, true)
	outIs(t, "R4: the second", b, 7, 2, -1, false)
	blocks(t, "R4: the second", b, -1)
	blocks(t, "R4: the first", a, 3)
	uses(t, "R4", b, 5, api.OK)
	outIs(t, "R4: the second", b, 7, 7, -1, true)
	raises(t, "R4: the first", a, 7, true)
	uses(t, "R4", a, 4, api.OK)
	blocks(t, "R4: the second", b, 7)
	outIs(t, "R4: the first", a, 7, 7, 3, true)
	b.Again(7)
	b.Again(3)
	blocks(t, "R4: the first", a, 7)
	outIs(t, "R4: the first", a, 7, 7, 7, false)
	outIs(t, "R4: the second", b, 7, 7, -1, true)
}

func TestTwoInsInTurns(t *testing.T) {
	a, b := madeIn(t, 4), madeIn(t, 6)
	takes(t, "R4", a, 4, api.OK)
	takes(t, "R4", b, 1, api.OK)
	consumes(t, "R4", a, 2, api.OK)
	consumes(t, "R4", b, 1, api.OK)
	inIs(t, "R4: the first", a, 4, 4, 2, 4, true)
	inIs(t, "R4: the second", b, 6, 1, 1, 6, false)
	updates(t, "R4: the second", b, -1)
	updates(t, "R4: the first", a, 6)
	takes(t, "R4", b, 5, api.OK)
	consumes(t, "R4", b, 3, api.OK)
	updates(t, "R4: the second", b, 10)
	a.Again(6)
	inIs(t, "R4: the first", a, 6, 4, 2, 4, true)
	inIs(t, "R4: the second", b, 10, 6, 4, 6, false)
	b.Again(10)
	updates(t, "R4: the first", a, 6)
	inIs(t, "R4: the first", a, 6, 4, 2, 4, false)
	inIs(t, "R4: the second", b, 10, 6, 4, 6, true)
}

// What View tells is a copy: it stays as it was told, whatever becomes of what told it.
func TestViewsStay(t *testing.T) {
	o, i := madeOut(t, 5), madeIn(t, 5)
	ov, iv := o.View(), i.View()
	o.Use(5)
	o.Blocked()
	o.Raise(9)
	i.Take(5)
	i.Consume(5)
	i.Update()
	if got, want := fmt.Sprint(ov, iv), "{5 0 -1} {5 0 0 5}"; got != want {
		t.Errorf("P17.5, P17.11: %s, want %s", got, want)
	}
	outIs(t, "P17.5", o, 9, 5, 5, false)
	inIs(t, "P17.11", i, 10, 5, 5, 5, false)
}
