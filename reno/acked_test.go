package reno

import (
	"math"
	"testing"

	"portage/api"
)

func TestSlowStartTakesSizes(t *testing.T) {
	for _, x := range taken {
		c := made(t, 1200)
		c.Acked(1, 1, x.size, false)
		views(t, "P10.3: slow start, by a size", c, win(12000+x.as, open, 0, -1))
		c.Acked(2, 1, x.size, false)
		views(t, "P10.3: slow start, by one more", c, win(12000+2*x.as, open, 0, -1))
	}
}

// Without a cut every sent raises, the latest as the earliest.
func TestAckedWithoutACut(t *testing.T) {
	for _, sent := range []int64{math.MinInt64, -2, -1, 0, 1, 99, 100, 101, api.MaxTime, math.MaxInt64} {
		c := made(t, 1200)
		c.Sent(3000)
		c.Acked(100, sent, 1000, false)
		views(t, "P10.3: no recovery period", c, win(13000, open, 2000, -1))
		c.Acked(100, sent, 1000, true)
		views(t, "P10.3: no recovery period, limited", c, win(13000, open, 1000, -1))
	}
}

// The raise is by what was acknowledged, not by what Flight lost.
func TestSlowStartByMoreThanFlight(t *testing.T) {
	c := made(t, 1200)
	c.Sent(100)
	c.Acked(1, 1, 1200, false)
	views(t, "P10.3: more than Flight", c, win(13200, open, 0, -1))
}

// Behind a cut at 100 a packet raises if it was sent behind that; Flight is less in any case.
func TestAckedBesideBegan(t *testing.T) {
	for _, x := range []struct {
		began, sent int64
		raises      bool
	}{
		{100, math.MinInt64, false}, {100, -1, false}, {100, 0, false}, {100, 99, false}, {100, 100, false}, {100, 101, true},
		{100, api.MaxTime, true}, {100, math.MaxInt64, true},
		{0, math.MinInt64, false}, {0, -2, false}, {0, -1, false}, {0, 0, false}, {0, 1, true},
		{api.MaxTime, api.MaxTime - 1, false}, {api.MaxTime, api.MaxTime, false}, {api.MaxTime, api.MaxTime + 1, false}, {api.MaxTime, math.MaxInt64, false},
		{api.MaxTime - 1, api.MaxTime - 1, false}, {api.MaxTime - 1, api.MaxTime, true}, {api.MaxTime - 1, math.MaxInt64, true},
	} {
		c := made(t, 1200)
		sends(c, 20000)
		cuts(t, "P10.4", c, x.began, 0, true)
		c.Acked(x.began, x.sent, 6000, false)
		want := win(6000, 6000, 14000, x.began)
		if x.raises {
			want.Size = 7200
		}
		views(t, "P10.3: sent beside Began", c, want)
	}
}

// What was sent ahead of the cut adds nothing to the rest, either.
func TestAckedAheadOfTheCutLeavesTheRest(t *testing.T) {
	c := made(t, 1200)
	cuts(t, "P10.4", c, 100, 0, true)
	acks(c, 200, 101, 5998)
	c.Acked(200, 100, 65535, false)
	c.Acked(200, 101, 65535, true)
	c.Acked(200, 101, 0, false)
	c.Acked(200, 101, -1, false)
	c.Acked(200, 101, 1, false)
	views(t, "P10.3: one byte is missing", c, win(6000, 6000, 0, 100))
	c.Acked(200, 101, 1, false)
	views(t, "P10.3: a window", c, win(7200, 6000, 0, 100))
}

func TestLimited(t *testing.T) {
	c := made(t, 1200)
	sends(c, 30000)
	c.Acked(10, 5, 1000, true)
	views(t, "P10.3: limited in slow start", c, win(12000, open, 29000, -1))
	cuts(t, "P10.4", c, 20, 5, true)
	c.Acked(30, 25, 6000, true)
	views(t, "P10.3: limited behind it", c, win(6000, 6000, 23000, 20))
	c.Acked(30, 25, 5999, false)
	views(t, "P10.3: the rest has nothing of it", c, win(6000, 6000, 17001, 20))
	c.Acked(30, 15, 1000, true)
	views(t, "P10.3: limited, and ahead of the cut", c, win(6000, 6000, 16001, 20))
}

// grown is one whose Size, by slow start behind a Collapse, is the size that is asked for; its Threshold is 6000.
func grown(t *testing.T, size int64) *Ctl {
	t.Helper()
	c := made(t, 1200)
	cuts(t, "P10.4", c, 100, 0, true)
	c.Collapse()
	c.Acked(101, 101, size-2400, false)
	views(t, "P10.3: slow start behind a Collapse", c, win(size, 6000, 0, -1))
	return c
}

func TestBesideTheThreshold(t *testing.T) {
	for _, x := range []struct {
		say              string
		size, acked, end int64
	}{
		{"just below it", 5999, 1200, 7199},
		{"just below it, by one", 5999, 1, 6000},
		{"just below it, by nothing", 5999, 0, 5999},
		{"at it", 6000, 1200, 6000},
		{"at it, by a window less one", 6000, 5999, 6000},
		{"at it, by a window", 6000, 6000, 7200},
		{"just above it", 6001, 1200, 6001},
		{"just above it, by a window less one", 6001, 6000, 6001},
		{"just above it, by a window", 6001, 6001, 7201},
		{"below it, by far more", 2400, 65535, 67935},
	} {
		c := grown(t, x.size)
		c.Acked(102, 102, x.acked, false)
		views(t, "P10.3: Size "+x.say, c, win(x.end, 6000, 0, -1))
	}
}

// What raised in slow start leaves nothing in the rest, though it went beyond the threshold.
func TestSlowStartLeavesNoRest(t *testing.T) {
	c := grown(t, 5999)
	c.Acked(102, 102, 3000, false)
	views(t, "P10.3: beyond the threshold", c, win(8999, 6000, 0, -1))
	acks(c, 103, 103, 8998)
	views(t, "P10.3: a window less one", c, win(8999, 6000, 0, -1))
	c.Acked(103, 103, 1, false)
	views(t, "P10.3: a window", c, win(10199, 6000, 0, -1))
}

func TestRestBesideSize(t *testing.T) {
	for _, x := range []struct {
		say           string
		mtu           int
		first, second int64
		size, left    int64 // left: how many bytes the next raise needs
	}{
		{"just below", 1200, 3000, 2999, 6000, 1},
		{"at it", 1200, 3000, 3000, 7200, 7200},
		{"just above", 1200, 3000, 3001, 7200, 7199},
		{"at it in one", 1200, 6000, 0, 7200, 7200},
		{"twice in one, less one", 1200, 0, 13199, 7200, 1},
		{"twice in one", 1200, 0, 13200, 8400, 8400},
		{"twice in one, and one", 1200, 0, 13201, 8400, 8399},
		{"as often as a size lets it", 1200, 5999, 65535, 14400, 14400 - (5999 + 65535 - 6000 - 7200 - 8400 - 9600 - 10800 - 12000 - 13200)},
		{"a size above it", 1200, 0, math.MaxInt64, 13200, 13200 - (65535 - 6000 - 7200 - 8400 - 9600 - 10800 - 12000)},
		{"a great mtu, just below", 9000, 9000, 8999, 18000, 1},
		{"a great mtu, at it", 9000, 9000, 9000, 27000, 27000},
		{"a great mtu, twice in one", 9000, 0, 45000, 36000, 36000},
	} {
		c := made(t, x.mtu)
		cuts(t, "P10.4", c, 100, 0, true)
		threshold, mtu := c.View().Threshold, int64(x.mtu)
		c.Acked(101, 101, x.first, false)
		c.Acked(101, 101, x.second, false)
		views(t, "P10.3: REST "+x.say, c, win(x.size, threshold, 0, 100))
		acks(c, 102, 102, x.left-1)
		views(t, "P10.3: REST "+x.say+", and all but one byte", c, win(x.size, threshold, 0, 100))
		c.Acked(102, 102, 1, false)
		views(t, "P10.3: REST "+x.say+", and the next raise", c, win(x.size+mtu, threshold, 0, 100))
	}
}

// With a Threshold below 2 mtu there is no slow start, not even from the least window.
func TestThresholdBelowTheLeast(t *testing.T) {
	c := made(t, 1200)
	for i := range int64(4) {
		cuts(t, "P10.4", c, 100+i, 100+i, true)
	}
	views(t, "P10.4: a Threshold of half the least", c, win(2400, 1200, 0, 103))
	c.Collapse()
	c.Acked(200, 200, 2399, false)
	views(t, "P10.3: a window less one", c, win(2400, 1200, 0, -1))
	c.Acked(200, 200, 1, false)
	views(t, "P10.3: a window", c, win(3600, 1200, 0, -1))
}

// A time that has passed counts as the clock, and only now moves that.
func TestAckedMovesTheClock(t *testing.T) {
	for _, x := range []struct {
		say              string
		acked, sent, now int64
		began            int64
	}{
		{"Acked ahead of it", 500, 0, 200, 500},
		{"Acked at the same time", 500, 0, 500, 500},
		{"Acked behind it", 500, 0, 501, 501},
		{"sent moves nothing", 5, 400, 200, 200},
		{"sent moves nothing, the greatest", 5, math.MaxInt64, 200, 200},
		{"Acked below 0", -7, 0, -1, 0},
		{"Acked at the least", math.MinInt64, 0, math.MinInt64, 0},
		{"Acked at MaxTime", api.MaxTime, 0, 1, api.MaxTime},
		{"Acked above MaxTime", api.MaxTime + 1, 0, 1, api.MaxTime},
		{"Acked at the greatest", math.MaxInt64, 0, 1, api.MaxTime},
	} {
		for _, limited := range []bool{false, true} {
			c := made(t, 1200)
			c.Acked(x.acked, x.sent, 0, limited)
			cuts(t, "P10.4: "+x.say, c, x.now, 0, true)
			views(t, "P10.4: Began is the clock, "+x.say, c, win(6000, 6000, 0, x.began))
		}
	}
}

// In recovery, too, Acked moves the clock.
func TestAckedInRecoveryMovesTheClock(t *testing.T) {
	c := made(t, 1200)
	cuts(t, "P10.4", c, 100, 0, true)
	c.Acked(700, 50, 1000, false)
	cuts(t, "P10.4: behind the cut", c, 300, 101, true)
	views(t, "P10.4: Began is the clock", c, win(3000, 3000, 0, 700))
}
