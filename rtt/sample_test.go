package rtt

import (
	"math"
	"testing"

	"portage/api"
)

// behind is one that learned from these, without a delay, at the times 10, 11 and so on.
func behind(t *testing.T, latest ...int64) *Est {
	t.Helper()
	e := made(t, 333000, 1000)
	for i, x := range latest {
		e.Sample(10+int64(i), x, 0)
	}
	return e
}

func TestFurtherSamples(t *testing.T) {
	for _, x := range []struct {
		say    string
		latest []int64
		want   api.RTT
	}{
		{"rising", []int64{800, 1600, 2400}, seen(2400, 800, (6300+2400)/8, (1500+1500)/4, 10)},
		{"falling", []int64{2400, 1600, 800}, seen(800, 800, (16100+800)/8, (3300+1500)/4, 10)},
		{"alike", []int64{800, 800, 800}, seen(800, 800, 800, 225, 10)},
		{"down and up", []int64{1600, 800, 1600}, seen(1600, 800, (10500+1600)/8, (2400+100)/4, 10)},
		{"up and down", []int64{800, 1600, 801}, seen(801, 800, (6300+801)/8, (1500+99)/4, 10)},
		{"nothing, and nothing", []int64{0, 0}, seen(0, 0, 0, 0, 10)},
		{"nothing, and something", []int64{0, 7}, seen(7, 0, 0, 1, 10)},
		{"something, and nothing", []int64{9, 0}, seen(0, 0, 7, 5, 10)},
		{"nothing, and the greatest", []int64{0, api.MaxTime}, seen(api.MaxTime, 0, api.MaxTime/8, api.MaxTime/4, 10)},
		{"the greatest, and nothing", []int64{api.MaxTime, 0}, seen(0, 0, api.MaxTime/8*7, api.MaxTime/8*5, 10)},
		{"the greatest thrice", []int64{api.MaxTime, api.MaxTime, api.MaxTime}, seen(api.MaxTime, api.MaxTime, api.MaxTime, api.MaxTime/32*9, 10)},
	} {
		views(t, "P9.2: "+x.say, behind(t, x.latest...), x.want)
	}
}

// Each row: what one sample makes of 1000, 1000, 1000, 500.
func TestDelay(t *testing.T) {
	for _, x := range []struct {
		say                         string
		latest, delay               int64
		newest, least, smooth, vary int64
	}{
		{"latest at Least + delay", 1200, 200, 1200, 1000, 1000, 375},
		{"latest just above it", 1201, 200, 1201, 1000, 1000, 375},
		{"latest well above it", 1216, 200, 1216, 1000, 1002, 379},
		{"latest just below it", 1199, 200, 1199, 1000, 1024, 424},
		{"latest at Least, with a delay", 1000, 1, 1000, 1000, 1000, 375},
		{"latest at Least + 1, with a delay of 1", 1001, 1, 1001, 1000, 1000, 375},
		{"a lesser Least, by this very sample", 600, 1, 600, 600, 950, 475},
		{"a lesser Least, and a delay that fitted to the one ahead", 999, 999, 999, 999, 999, 375},
		{"no delay", 1200, 0, 1200, 1000, 1025, 425},
		{"a delay below 0", 1200, -200, 1200, 1000, 1025, 425},
		{"the least delay of all", 1200, math.MinInt64, 1200, 1000, 1025, 425},
		{"a delay as great as latest", 1200, 1200, 1200, 1000, 1025, 425},
		{"a delay of MaxTime", 1200, api.MaxTime, 1200, 1000, 1025, 425},
		{"a delay above it", 1200, api.MaxTime + 1, 1200, 1000, 1025, 425},
		{"the greatest delay of all", 1200, math.MaxInt64, 1200, 1000, 1025, 425},
		{"a latest of 0", 0, 0, 0, 0, 875, 625},
		{"a latest below 0", -1, 0, 0, 0, 875, 625},
		{"the least latest of all", math.MinInt64, 300, 0, 0, 875, 625},
		{"both below 0", -5, -5, 0, 0, 875, 625},
		{"both of MaxTime: delay isn't taken off", api.MaxTime, api.MaxTime, api.MaxTime, 1000, api.MaxTime/8 + 875, api.MaxTime/4 + 125},
		{"both above it", api.MaxTime + 1, api.MaxTime + 1, api.MaxTime, 1000, api.MaxTime/8 + 875, api.MaxTime/4 + 125},
		{"a latest of MaxTime", api.MaxTime, 0, api.MaxTime, 1000, api.MaxTime/8 + 875, api.MaxTime/4 + 125},
		{"a latest above it", math.MaxInt64, 0, api.MaxTime, 1000, api.MaxTime/8 + 875, api.MaxTime/4 + 125},
		{"MaxTime, with the greatest delay that is taken off", api.MaxTime, api.MaxTime - 1000, api.MaxTime, 1000, 1000, 375},
		{"the same, of one above MaxTime", api.MaxTime + 9, api.MaxTime - 1000, api.MaxTime, 1000, 1000, 375},
		{"and with one more", api.MaxTime, api.MaxTime - 999, api.MaxTime, 1000, api.MaxTime/8 + 875, api.MaxTime/4 + 125},
	} {
		e := behind(t, 1000)
		e.Sample(11, x.latest, x.delay)
		views(t, "P9.2: "+x.say, e, seen(x.newest, x.least, x.smooth, x.vary, 10))
	}
}

// With a Least of 0 every delay up to latest is taken off.
func TestDelayWithoutLeast(t *testing.T) {
	for _, x := range []struct{ latest, delay, smooth, vary int64 }{
		{800, 800, 0, 0}, {800, 0, 100, 200}, {800, 400, 50, 100}, {800, 801, 100, 200}, {api.MaxTime, math.MaxInt64, 0, 0}, {0, 0, 0, 0},
	} {
		e := behind(t, 0)
		e.Sample(11, x.latest, x.delay)
		views(t, "P9.2: a Least of 0", e, seen(x.latest, 0, x.smooth, x.vary, 10))
	}
}

// Quotients are rounded down: each row is what one sample makes of 8, 8, 8, 4.
func TestRoundsDown(t *testing.T) {
	for _, x := range []struct{ latest, least, smooth, vary int64 }{
		{8, 8, 8, 3}, {9, 8, 8, 3}, {11, 8, 8, 3}, {12, 8, 8, 4}, {15, 8, 8, 4}, {16, 8, 9, 5}, {7, 7, 7, 3}, {1, 1, 7, 4}, {0, 0, 7, 5},
	} {
		e := behind(t, 8)
		e.Sample(11, x.latest, 0)
		views(t, "P9.2: quotients rounded down", e, seen(x.latest, x.least, x.smooth, x.vary, 10))
	}
}

// By the Smooth behind the sample Var would be (3 400 + 700) / 4.
func TestVarIsReckonedByTheSmoothAhead(t *testing.T) {
	e := behind(t, 800)
	e.Sample(11, 1600, 0)
	views(t, "P9.2: Var by the Smooth ahead of the sample", e, seen(1600, 800, 900, 500, 10))
}

func TestRestartAheadOfTheFirstSample(t *testing.T) {
	e := made(t, 333000, 1000)
	e.Restart()
	e.Restart()
	holds(t, "P9.3: Restart without a sample", e, api.RTT{}, 999000, 374625)
	e.Sample(10, 800, 100)
	views(t, "P9.3: the first sample behind Restart", e, seen(800, 800, 800, 400, 10))
	e.Sample(11, 1600, 0)
	views(t, "P9.3: Least stays with the second sample", e, seen(1600, 800, 900, 500, 10))
}

func TestRestartWaitsForASample(t *testing.T) {
	e := behind(t, 800)
	e.Restart()
	holds(t, "P9.3: Restart by itself changes nothing", e, seen(800, 800, 800, 400, 10), 2400, 1000)
}

func TestRestart(t *testing.T) {
	for times := range 3 {
		e := behind(t, 800)
		for range times {
			e.Restart()
		}
		least := int64(1600)
		if times == 0 {
			least = 800
		}
		e.Sample(11, 1600, 0)
		views(t, "P9.3: the sample behind Restart", e, seen(1600, least, 900, 500, 10))
		e.Sample(12, 1700, 0)
		views(t, "P9.3: Least stays with the one behind that", e, seen(1700, least, 1000, 575, 10))
		e.Sample(13, 700, 0)
		views(t, "P9.3: a lesser one is the least", e, seen(700, 700, 962, 506, 10))
	}
}

func TestRestartWithAnyLatest(t *testing.T) {
	for _, x := range []struct{ latest, delay, smooth, vary int64 }{
		{1600, 100, 900, 500}, // Least is 1600 first, so that no delay is taken off
		{1600, 1, 900, 500},
		{800, 0, 800, 300},
		{800, 800, 800, 300},
		{0, 0, 700, 500},
		{-1, 900, 700, 500},
	} {
		e := behind(t, 800)
		e.Restart()
		e.Sample(11, x.latest, x.delay)
		latest := max(x.latest, 0)
		views(t, "P9.3: the sample behind Restart", e, seen(latest, latest, x.smooth, x.vary, 10))
	}
}

func TestDelayBehindRestart(t *testing.T) {
	e := behind(t, 800)
	e.Restart()
	e.Sample(11, 1600, 0)
	e.Sample(12, 1700, 100)
	views(t, "P9.3: a delay is held against the new Least", e, seen(1700, 1600, (6300+1600)/8, (1500+700)/4, 10))
	e.Sample(13, 1700, 101)
	views(t, "P9.3: a delay above it isn't taken off", e, seen(1700, 1600, (6909+1700)/8, (1650+713)/4, 10))
}

func TestFirstIsTheClock(t *testing.T) {
	for _, x := range []struct{ now, first int64 }{
		{math.MinInt64, 0}, {-1, 0}, {0, 0}, {1, 1}, {12345, 12345}, {api.MaxTime - 1, api.MaxTime - 1},
		{api.MaxTime, api.MaxTime}, {api.MaxTime + 1, api.MaxTime}, {math.MaxInt64, api.MaxTime},
	} {
		e := made(t, 333000, 1000)
		e.Sample(x.now, 800, 0)
		views(t, "P9.1: First is the clock", e, seen(800, 800, 800, 400, x.first))
	}
}

func TestFirstStays(t *testing.T) {
	e := behind(t, 800)
	for _, now := range []int64{11, 10, 9, 0, -1, math.MinInt64, 100, 50, api.MaxTime, math.MaxInt64, 10} {
		e.Restart()
		e.Sample(now, 800, 0)
		if got := e.View(); got.First != 10 || got.Latest != 800 || got.Smooth != 800 {
			t.Errorf("P9.1: a sample at %d: View() = %+v, want First 10", now, got)
		}
	}
}

// A time that has passed counts as the clock: the sample itself is taken like any other.
func TestPassedTimesCount(t *testing.T) {
	e := behind(t, 800)
	e.Sample(-7, 1600, 0)
	views(t, "P9.2: a sample at a time that has passed", e, seen(1600, 800, 900, 500, 10))
	e.Sample(math.MaxInt64, 900, 0)
	views(t, "P9.2: a sample at a time above MaxTime", e, seen(900, 800, 900, 375, 10))
}
