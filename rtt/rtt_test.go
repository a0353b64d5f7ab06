package rtt

import (
	"math"
	"testing"

	"portage/api"
)

// made is one without a sample.
func made(t *testing.T, initial, granularity int64) *Est {
	t.Helper()
	e, err := New(initial, granularity)
	if e == nil || err != api.OK {
		t.Fatalf("P9.1: New(%d, %d) = %v, %d, want one and OK", initial, granularity, e, err)
	}
	return e
}

// seen is what a view tells behind the first sample.
func seen(latest, least, smooth, vary, first int64) api.RTT {
	return api.RTT{Has: true, Latest: latest, Least: least, Smooth: smooth, Var: vary, First: first}
}

// holds fails if one answers otherwise than this, by any of the calls that only ask.
func holds(t *testing.T, say string, e *Est, view api.RTT, base, loss int64) {
	t.Helper()
	if got := e.View(); got != view {
		t.Errorf("%s: View() = %+v, want %+v", say, got, view)
	}
	if got := e.Base(); got != base {
		t.Errorf("%s: Base() = %d, want %d", say, got, base)
	}
	if got := e.LossDelay(); got != loss {
		t.Errorf("%s: LossDelay() = %d, want %d", say, got, loss)
	}
}

// views fails if one's view is another.
func views(t *testing.T, say string, e *Est, want api.RTT) {
	t.Helper()
	if got := e.View(); got != want {
		t.Errorf("%s: View() = %+v, want %+v", say, got, want)
	}
}

func TestExamples(t *testing.T) {
	e := made(t, 333000, 1000)
	holds(t, "P9.4: ahead of the first sample", e, api.RTT{}, 999000, 374625)
	e.Sample(50, 100000, 20000)
	holds(t, "P9.2: the first sample", e, seen(100000, 100000, 100000, 50000, 50), 300000, 112500)
	e.Sample(60, 130000, 20000)
	holds(t, "P9.2: the second sample", e, seen(130000, 100000, 101250, 40000, 50), 261250, 146250)
	e.Sample(70, 110000, 20000)
	holds(t, "P9.2: the third sample", e, seen(110000, 100000, 102343, 32187, 50), 231091, 123750)
	e.Restart()
	e.Sample(80, 140000, 50000)
	holds(t, "P9.3: the sample behind Restart", e, seen(140000, 140000, 107050, 33554, 50), 241266, 157500)
}

func TestNewTakes(t *testing.T) {
	for _, initial := range []int64{1, 2, 333000, 59999999, 60000000} {
		for _, granularity := range []int64{1, 2, 1000, 999999, 1000000} {
			e := made(t, initial, granularity)
			views(t, "P9.1: an Est without a sample", e, api.RTT{})
		}
	}
}

func TestNewRefuses(t *testing.T) {
	wrong := func(most int64) []int64 {
		return []int64{math.MinInt64, -1, 0, most + 1, api.MaxTime, math.MaxInt64}
	}
	refused := func(initial, granularity int64) {
		if e, err := New(initial, granularity); e != nil || err != api.ErrArg {
			t.Errorf("P9.1: New(%d, %d) = %v, %d, want nil and ErrArg", initial, granularity, e, err)
		}
	}
	for _, initial := range wrong(60000000) {
		refused(initial, 1)
		refused(initial, 1000000)
		for _, granularity := range wrong(1000000) {
			refused(initial, granularity)
		}
	}
	for _, granularity := range wrong(1000000) {
		refused(1, granularity)
		refused(60000000, granularity)
	}
}

func TestAheadOfTheFirstSample(t *testing.T) {
	for _, x := range []struct{ initial, granularity, base, loss int64 }{
		{1, 1, 2, 1},                                 // Var is 1 / 2: 0
		{1, 1000000, 1000001, 1000000},               // granularity is the greater one of both
		{2, 1, 6, 2},                                 // 18 / 8
		{3, 1, 7, 3},                                 // Var is 1, and 27 / 8
		{3, 4, 7, 4},                                 // 4 times Var and granularity are alike
		{3, 5, 8, 5},                                 // granularity is one more
		{8, 9, 24, 9},                                // 9 times 8 / 8 and granularity are alike
		{8, 8, 24, 9},                                // granularity is one less
		{333001, 1000, 999001, 374626},               // an odd one
		{60000000, 1000000, 180000000, 67500000},     // the greatest of both
		{60000000, 1, 180000000, 67500000},           // and the least granularity
		{666666, 1000000, 666666 + 1333332, 1e6},     // granularity below 4 times Var, above LossDelay's quotient
		{500000, 1000000, 500000 + 1000000, 1e6},     // 4 times Var is granularity
		{499999, 1000000, 499999 + 1000000, 1e6},     // 4 times Var is 999996
		{888888, 1000000, 888888 + 1777776, 1e6},     // 999999
		{888889, 1000000, 888889 + 1777776, 1e6},     // 1000000
		{888890, 1000000, 888890 + 1777780, 1e6 + 1}, // 1000001
	} {
		e := made(t, x.initial, x.granularity)
		holds(t, "P9.4: ahead of the first sample", e, api.RTT{}, x.base, x.loss)
	}
}

func TestFirstSample(t *testing.T) {
	for _, x := range []struct{ latest, smooth, vary int64 }{
		{math.MinInt64, 0, 0}, {-1, 0, 0}, {0, 0, 0}, {1, 1, 0}, {2, 2, 1}, {7, 7, 3}, {100001, 100001, 50000},
		{api.MaxTime - 1, api.MaxTime - 1, api.MaxTime/2 - 1}, {api.MaxTime, api.MaxTime, api.MaxTime / 2},
		{api.MaxTime + 1, api.MaxTime, api.MaxTime / 2}, {math.MaxInt64, api.MaxTime, api.MaxTime / 2},
	} {
		for _, delay := range []int64{math.MinInt64, -1, 0, 1, x.smooth, x.smooth + 1, api.MaxTime, api.MaxTime + 1, math.MaxInt64} {
			e := made(t, 333000, 1000)
			e.Sample(9, x.latest, delay)
			views(t, "P9.2: the first sample, whatever its delay", e, seen(x.smooth, x.smooth, x.smooth, x.vary, 9))
		}
	}
}

func TestInitialIsForgotten(t *testing.T) {
	for _, initial := range []int64{1, 333000, 60000000} {
		e := made(t, initial, 1)
		e.Sample(0, 16, 0)
		holds(t, "P9.2: the first sample, whatever initial is", e, seen(16, 16, 16, 8, 0), 48, 18)
	}
}

func TestBaseAndLossDelay(t *testing.T) {
	for _, x := range []struct {
		say                        string
		granularity, first, second int64
		base, loss                 int64
	}{
		{"like samples", 1, 800, 800, 800 + 4*300, 900},
		{"a rising one: Latest is the greater", 1, 800, 1600, 900 + 4*500, 1800},
		{"a falling one: Smooth is the greater", 1, 800, 160, 720 + 4*460, 810},
		{"granularity above both", 5000, 800, 800, 5800, 5000},
		{"granularity at 4 times Var", 1200, 800, 800, 2000, 1200},
		{"granularity above 4 times Var by one", 1201, 800, 800, 2001, 1201},
		{"granularity below 4 times Var by one", 1199, 800, 800, 2000, 1199},
		{"granularity at LossDelay's quotient", 900, 800, 800, 2000, 900},
		{"granularity above it by one", 901, 800, 800, 2000, 901},
		{"granularity below it by one", 899, 800, 800, 2000, 900},
		{"a quotient that is rounded down", 1, 801, 801, 801 + 4*300, 901},
		{"nothing but granularity", 7, 0, 0, 7, 7},
		{"the greatest of all", 1000000, api.MaxTime, api.MaxTime, api.MaxTime + api.MaxTime/2*3, api.MaxTime / 8 * 9},
	} {
		e := made(t, 333000, x.granularity)
		e.Sample(0, x.first, 0)
		e.Sample(0, x.second, 0)
		if base, loss := e.Base(), e.LossDelay(); base != x.base || loss != x.loss {
			t.Errorf("P9.4: %s: Base, LossDelay = %d, %d, want %d, %d", x.say, base, loss, x.base, x.loss)
		}
	}
}

func TestAskingChangesNothing(t *testing.T) {
	e, quiet := made(t, 333000, 1000), made(t, 333000, 1000)
	for i, latest := range []int64{0, 90000, 50000, 120000, 70000} {
		if i == 3 {
			e.Restart()
			quiet.Restart()
		}
		if i > 0 {
			e.Sample(int64(i), latest, 10000)
			quiet.Sample(int64(i), latest, 10000)
		}
		for range 3 {
			e.View()
			e.Base()
			e.LossDelay()
		}
		views(t, "P9.1: one that was asked often", e, quiet.View())
	}
}

// What is told belongs to the one that asked: nothing that he does to it comes back (R3).
func TestViewIsNew(t *testing.T) {
	e := made(t, 333000, 1000)
	e.Sample(5, 80000, 0)
	v := e.View()
	v.Least, v.Smooth, v.First = 1, 2, 3
	views(t, "P9.1: a view that was changed", e, seen(80000, 80000, 80000, 40000, 5))
}

// Two know nothing of one another (R4).
func TestTwoInTurns(t *testing.T) {
	a, b := made(t, 333000, 1000), made(t, 1, 1)
	a.Sample(70, 100000, 0)
	holds(t, "P9.1: the other one had no sample", b, api.RTT{}, 2, 1)
	b.Restart()
	a.Sample(80, 108000, 0)
	views(t, "P9.3: the other one was told to restart", a, seen(108000, 100000, 101000, 39500, 70))
	b.Sample(30, 8, 0)
	views(t, "P9.1: the other one's clock is 80", b, seen(8, 8, 8, 4, 30))
	a.Restart()
	b.Sample(31, 16, 0)
	views(t, "P9.3: the other one restarts", b, seen(16, 8, 9, 5, 30))
	a.Sample(81, 109000, 0)
	views(t, "P9.3: the other one's sample lies between", a, seen(109000, 109000, 102000, 31625, 70))
}
