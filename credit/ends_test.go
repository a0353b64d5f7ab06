package credit

import (
	"math/rand/v2"
	"testing"

	"portage/api"
)

// Ends are the two ends of a credit, and what lies between them: limits of which Update told and what was used, on their way.
type ends struct {
	t      *testing.T
	r      *rand.Rand
	out    *Out
	in     *In
	window int64
	limits []int64 // on their way: each may come, in any turn, more than once, or never
	newest int64   // the last that Update told; -1: none
	under  int64   // used, and not taken yet
}

func newEnds(t *testing.T, r *rand.Rand, window int64) *ends {
	t.Helper()
	return &ends{t: t, r: r, out: madeOut(t, window), in: madeIn(t, window), window: window, newest: -1}
}

func (e *ends) use(n int64) {
	e.t.Helper()
	if err := e.out.Use(n); err != api.OK {
		e.t.Fatalf("P17.2: Use(%d) = %d: %+v", n, err, e.out.View())
	}
	e.under += n
}

// take takes so much of what was used: it must be taken.
func (e *ends) take(n int64) {
	e.t.Helper()
	if err := e.in.Take(n); err != api.OK {
		e.t.Fatalf("P17.12: Take(%d) = %d: %+v, %+v", n, err, e.out.View(), e.in.View())
	}
	e.under -= n
}

func (e *ends) consume(n int64) {
	e.t.Helper()
	if err := e.in.Consume(n); err != api.OK {
		e.t.Fatalf("P17.8: Consume(%d) = %d: %+v", n, err, e.in.View())
	}
}

func (e *ends) update() {
	if limit, is := e.in.Update(); is {
		e.limits = append(e.limits, limit)
		e.newest = limit
	}
}

// befall lets something befall one of the limits on their way: it comes and is gone, comes and may come again, is lost and told to be, or lost without a word.
func (e *ends) befall() {
	if len(e.limits) == 0 {
		return
	}
	at := e.r.IntN(len(e.limits))
	limit, kind := e.limits[at], e.r.IntN(5)
	if kind <= 2 {
		e.out.Raise(limit)
	}
	if kind >= 3 && e.r.IntN(3) > 0 {
		e.in.Again(limit)
	}
	if kind != 2 {
		e.limits = append(e.limits[:at], e.limits[at+1:]...)
	}
}

// piece is a number up to n: often all of it.
func (e *ends) piece(n int64) int64 {
	if e.r.IntN(3) == 0 {
		return n
	}
	return e.r.Int64N(n + 1)
}

func (e *ends) step() {
	e.t.Helper()
	switch e.r.IntN(5) {
	case 0:
		e.use(e.piece(e.out.Room()))
	case 1:
		e.take(e.piece(e.under))
	case 2:
		v := e.in.View()
		e.consume(e.piece(v.Taken - v.Consumed))
	case 3:
		e.update()
	case 4:
		e.befall()
	}
	if o, i := e.out.View(), e.in.View(); o.Limit > i.Limit || o.Used > o.Limit || i.Taken > o.Used {
		e.t.Fatalf("P17.12: %+v, %+v", o, i)
	}
}

// settle lets all that was used be taken and consumed, and the last limit come.
func (e *ends) settle() {
	e.t.Helper()
	e.take(e.under)
	v := e.in.View()
	e.consume(v.Taken - v.Consumed)
	e.update()
	if e.newest >= 0 {
		e.out.Raise(e.newest)
	}
}

// P17.12, P17.13: whatever becomes of limits on their way, none oversteps; and when the last has come, there is more room than half a window.
func TestNobodyOverstepsNobodyStarves(t *testing.T) {
	r := rand.New(rand.NewPCG(17, 4))
	rises, lows := 0, 0
	for range 4000 {
		e := newEnds(t, r, some(r, 0, 1, 2, 3, 4, 5, 1+r.Int64N(20), 1+r.Int64N(100000), 1<<20, 1<<40))
		for range 1 + r.IntN(80) {
			e.step()
		}
		e.settle()
		room := e.out.Room()
		if e.window > 0 && room <= e.window/2 {
			t.Fatalf("P17.13: a window of %d, and Room is %d: %+v, %+v", e.window, room, e.out.View(), e.in.View())
		}
		if e.window == 0 && (room != 0 || e.in.Wants()) {
			t.Fatalf("P17.9: a window of 0: %+v, %+v", e.out.View(), e.in.View())
		}
		if e.newest >= 0 {
			rises++
		}
		if room == e.window/2+1 {
			lows++
		}
	}
	if rises < 2000 || lows < 100 {
		t.Errorf("limits were told in %d rows, and Room just above half a window in %d: too few", rises, lows)
	}
}

// P17.13: the least room that there may be is just one above half a window.
func TestLeastRoom(t *testing.T) {
	for window := int64(1); window <= 50; window++ {
		least := window
		for n := range window + 1 {
			e := newEnds(t, nil, window)
			e.use(n)
			e.settle()
			least = min(least, e.out.Room())
		}
		if least != window/2+1 {
			t.Errorf("P17.13: a window of %d: the least room is %d", window, least)
		}
	}
}

// P17.12, near MaxNumber: limits are cut there, and none oversteps.
func TestNobodyOverstepsAtTheEnd(t *testing.T) {
	r := rand.New(rand.NewPCG(17, 5))
	came, far := 0, 0
	for range 3000 {
		e := newEnds(t, r, some(r, 1<<56, 1<<58, 1<<59+1, 1<<60+r.Int64N(1<<60), api.MaxNumber/2, api.MaxNumber/2+1, api.MaxNumber-1, api.MaxNumber))
		for range 200 {
			e.step()
		}
		e.settle()
		v := e.out.View()
		if v.Limit == api.MaxNumber {
			came++
		}
		if api.MaxNumber-v.Used < e.window {
			continue
		}
		far++
		if room := e.out.Room(); room <= e.window/2 {
			t.Fatalf("P17.13: a window of %d, and Room is %d: %+v, %+v", e.window, room, e.out.View(), e.in.View())
		}
	}
	if came < 300 || far < 300 {
		t.Errorf("MaxNumber was come to in %d rows, and was a window away in %d: too few", came, far)
	}
}

// P17.12: a limit that comes late, twice, and behind a greater one changes nothing.
func TestLimitsLateAndDoubled(t *testing.T) {
	o, i := madeOut(t, 4), madeIn(t, 4)
	uses(t, "P17.12", o, 4, api.OK)
	takes(t, "P17.12", i, 4, api.OK)
	consumes(t, "P17.12", i, 2, api.OK)
	updates(t, "P17.12", i, 6)
	consumes(t, "P17.12", i, 2, api.OK)
	updates(t, "P17.12", i, 8)
	raises(t, "P17.12: the later one first", o, 8, true)
	raises(t, "P17.12: the earlier one late", o, 6, false)
	raises(t, "P17.12: the later one twice", o, 8, false)
	outIs(t, "P17.12", o, 8, 4, -1, false)
	uses(t, "P17.12", o, 5, api.ErrCreditLimit)
	uses(t, "P17.12", o, 4, api.OK)
	takes(t, "P17.12", i, 4, api.OK)
	takes(t, "P17.12: not one more", i, 1, api.ErrCreditLimit)
}

// P17.13: where the last limit is lost, all waits for it, till it is told again.
func TestALostLimitIsToldAgain(t *testing.T) {
	o, i := madeOut(t, 4), madeIn(t, 4)
	uses(t, "P17.13", o, 4, api.OK)
	takes(t, "P17.13", i, 4, api.OK)
	consumes(t, "P17.13", i, 2, api.OK)
	updates(t, "P17.13: it is lost", i, 6)
	consumes(t, "P17.13", i, 1, api.OK)
	updates(t, "P17.13: less than half a window", i, -1)
	blocks(t, "P17.13: this is lost, too", o, 4)
	o.Again(4)
	blocks(t, "P17.13: told again", o, 4)
	i.Again(6)
	updates(t, "P17.13: told again, with what was consumed since", i, 7)
	raises(t, "P17.13", o, 7, true)
	outIs(t, "P17.13", o, 7, 4, 4, false)
	uses(t, "P17.13", o, 3, api.OK)
	takes(t, "P17.13", i, 3, api.OK)
	consumes(t, "P17.13", i, 4, api.OK)
	blocks(t, "P17.13: at another limit", o, 7)
	updates(t, "P17.13", i, 11)
	raises(t, "P17.13", o, 11, true)
	o.Again(7)
	outIs(t, "P17.13: the limit of which this told has risen since", o, 11, 7, -1, false)
}
