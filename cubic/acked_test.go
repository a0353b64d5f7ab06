package cubic

import (
	"math"
	"testing"

	"portage/api"
)

func TestSlowStartTakesSizes(t *testing.T) {
	for _, x := range taken {
		c := made(t, 1200)
		c.Acked(1, 1, x.size, false)
		views(t, "P11.2: slow start, by a size", c, win(12000+x.as, open, 0, -1))
		c.Acked(2, 1, x.size, false)
		views(t, "P11.2: slow start, by one more", c, win(12000+2*x.as, open, 0, -1))
	}
}

// Without a cut every sent raises, the latest as the earliest.
func TestAckedWithoutACut(t *testing.T) {
	for _, sent := range []int64{math.MinInt64, -2, -1, 0, 1, 99, 100, 101, api.MaxTime, math.MaxInt64} {
		c := made(t, 1200)
		c.Sent(3000)
		c.Acked(100, sent, 1000, false)
		views(t, "P11.2: no recovery period", c, win(13000, open, 2000, -1))
		c.Acked(100, sent, 1000, true)
		views(t, "P11.2: no recovery period, limited", c, win(13000, open, 1000, -1))
	}
}

// The raise is by what was acknowledged, not by what Flight lost.
func TestRaiseByMoreThanFlight(t *testing.T) {
	c := made(t, 1200)
	c.Sent(100)
	c.Acked(1, 1, 800, false)
	views(t, "P11.2: more than Flight, in slow start", c, win(12800, open, 0, -1))
	cuts(t, "P11.3", c, 1000, 0, true)
	begin(t, c, 2000)
	c.Sent(100)
	c.Acked(2000+2*second, 2000, 8960, false)
	views(t, "P11.2: more than Flight, behind it", c, win(12800, 8960, 0, 1000))
}

// beside is a sent beside Began, and whether it lies behind it.
var beside = []struct {
	began, sent int64
	behind      bool
}{
	{100, math.MinInt64, false}, {100, -1, false}, {100, 0, false}, {100, 99, false}, {100, 100, false}, {100, 101, true},
	{100, api.MaxTime, true}, {100, math.MaxInt64, true},
	{0, math.MinInt64, false}, {0, -2, false}, {0, -1, false}, {0, 0, false}, {0, 1, true},
	{api.MaxTime, api.MaxTime - 1, false}, {api.MaxTime, api.MaxTime, false}, {api.MaxTime, api.MaxTime + 1, false}, {api.MaxTime, math.MaxInt64, false},
	{api.MaxTime - 1, api.MaxTime - 1, false}, {api.MaxTime - 1, api.MaxTime, true}, {api.MaxTime - 1, math.MaxInt64, true},
}

// Behind a cut a packet raises if it was sent behind that; Flight is less in any case.
func TestAckedBesideBegan(t *testing.T) {
	for _, x := range beside {
		c := made(t, 1200)
		sends(c, 20000)
		cuts(t, "P11.3", c, x.began, 0, true)
		c.Acked(x.began, x.sent, 8400, false)
		want := win(8400, 8400, 11600, x.began)
		if x.behind {
			want.Size = 8400 + 635 // 1200 x 9 / 17, as EST is below PEAK
		}
		views(t, "P11.2: sent beside Began", c, want)
	}
}

// What was sent ahead of the cut, and what is limited, begins no curve, and moves nothing on it but the clock.
func TestWhatStaysLeavesTheCurve(t *testing.T) {
	for _, x := range []struct {
		say     string
		sent    int64
		limited bool
	}{
		{"ahead of the cut", 999, false}, {"as it was made", 1000, false}, {"limited", 1001, true}, {"limited, ahead of the cut", 500, true},
	} {
		c := fallen(t, 1200, 12800)
		sends(c, 100000)
		c.Acked(2000, x.sent, 5000, x.limited)
		views(t, "P11.2: the window stays, "+x.say, c, win(8960, 8960, 95000, 1000))
		begin(t, c, second)
		c.Acked(2*second, x.sent, 5000, x.limited)
		views(t, "P11.2: the window stays on the curve, "+x.say, c, win(8960, 8960, 90000, 1000))
		c.Acked(0, 1001, 8960, false)
		views(t, "P11.2: EPOCH is as it was, and the clock, "+x.say, c, win(12320, 8960, 81040, 1000))
	}
}

// EST has nothing of what is limited, nor of what was sent ahead of the cut.
func TestWhatStaysLeavesThePlainOne(t *testing.T) {
	c := fallen(t, 1200, 12800)
	begin(t, c, 2000)
	c.Acked(2000, 2000, 8960, true)
	c.Acked(2000, 1000, 8960, false)
	views(t, "P11.2: the window stays", c, win(8960, 8960, 0, 1000))
	whole(c, 2000)
	views(t, "P11.2: EST is as it was", c, win(9595, 8960, 0, 1000))
}

func TestLimited(t *testing.T) {
	c := made(t, 1200)
	sends(c, 30000)
	c.Acked(10, 5, 1000, true)
	views(t, "P11.2: limited in slow start", c, win(12000, open, 29000, -1))
	cuts(t, "P11.3", c, 20, 5, true)
	c.Acked(30, 25, 6000, true)
	views(t, "P11.2: limited behind it", c, win(8400, 8400, 23000, 20))
	c.Collapse()
	c.Acked(40, 5, 1000, true)
	views(t, "P11.2: limited in slow start behind a Collapse", c, win(2400, 8400, 22000, -1))
}

// Below the threshold the raise is by what was acknowledged, though it goes far beyond; from it on it is the curve's.
func TestBesideTheThreshold(t *testing.T) {
	for _, x := range []struct {
		say              string
		size, acked, end int64
	}{
		{"just below it", 8959, 1200, 10159},
		{"just below it, by one", 8959, 1, 8960},
		{"just below it, by nothing", 8959, 0, 8959},
		{"at it", 8960, 8960, 8960 + 635},
		{"at it, by a datagram", 8960, 1200, 8960 + 11}, // (1200 x 1200 / 8960 x 9 / 17) x 1200 / 8960
		{"at it, by nothing", 8960, 0, 8960},
		{"just above it", 8961, 8961, 8961 + 635},
		{"below it, by far more", 2400, 65535, 67935},
	} {
		c := back(t, 1200, 12800, x.size)
		c.Acked(1000, 0, x.acked, false)
		views(t, "P11.2: Size "+x.say, c, win(x.end, 8960, 0, -1))
	}
}

// In slow start no curve begins: it begins with the first acknowledgement behind that.
func TestSlowStartBeginsNoCurve(t *testing.T) {
	c := back(t, 1200, 12800, 8959)
	c.Acked(2000, 0, 1, false)
	c.Acked(5000, 0, 0, false)
	whole(c, 5000+2*second-500000)
	views(t, "P11.2: the curve began at 5000", c, win(12800-60, 8960, 0, -1))
}

// On the curve a size counts as at most Size; for Flight it does not.
func TestASizeAboveSize(t *testing.T) {
	for _, size := range []int64{8960, 8961, 20000, 65535, 65536, math.MaxInt64} {
		c := fallen(t, 1200, 12800)
		sends(c, 70000)
		begin(t, c, 2000)
		c.Acked(2000+2*second, 2000, size, false)
		views(t, "P11.2: a size of Size at least", c, win(12800, 8960, 70000-min(size, 65535), 1000))
	}
	for _, size := range []int64{8960, 8961, 65535, math.MaxInt64} {
		c := fallen(t, 1200, 12800)
		c.Acked(2000, 2000, size, false)
		views(t, "P11.2: EST, by a size of Size at least", c, win(9595, 8960, 0, 1000))
	}
	for _, size := range []int64{math.MinInt64, -1, 0} {
		c := fallen(t, 1200, 12800)
		begin(t, c, 2000)
		c.Acked(2000+2*second, 2000, size, false)
		views(t, "P11.2: nothing", c, win(8960, 8960, 0, 1000))
	}
}

// A window above 65535 is raised by a share at most, since no size is greater than that.
func TestAShareOfAGreatWindow(t *testing.T) {
	c := fallen(t, 9000, 96000)
	views(t, "P11.3: cut", c, win(67200, 67200, 0, 1000))
	begin(t, c, 2000)
	c.Acked(2000+2*second, 2000, math.MaxInt64, false)
	views(t, "P11.2: 28800 x 65535 / 67200", c, win(67200+28086, 67200, 0, 1000))
}

// A time that has passed counts as the clock, and only now moves that.
func TestAckedMovesTheClock(t *testing.T) {
	for _, x := range []struct {
		say              string
		acked, sent, now int64
		began            int64
	}{
		{"Acked ahead of it", 500, 0, 200, 500},
		{"Acked at the same time", 500, 0, 500, 500},
		{"Acked behind it", 500, 0, 501, 501},
		{"sent moves nothing", 5, 400, 200, 200},
		{"sent moves nothing, the greatest", 5, math.MaxInt64, 200, 200},
		{"Acked below 0", -7, 0, -1, 0},
		{"Acked at the least", math.MinInt64, 0, math.MinInt64, 0},
		{"Acked at MaxTime", api.MaxTime, 0, 1, api.MaxTime},
		{"Acked above MaxTime", api.MaxTime + 1, 0, 1, api.MaxTime},
		{"Acked at the greatest", math.MaxInt64, 0, 1, api.MaxTime},
	} {
		for _, limited := range []bool{false, true} {
			c := made(t, 1200)
			c.Acked(x.acked, x.sent, 0, limited)
			cuts(t, "P11.3: "+x.say, c, x.now, 0, true)
			views(t, "P11.3: Began is the clock, "+x.say, c, win(8400, 8400, 0, x.began))
		}
	}
}

// In recovery, too, Acked moves the clock.
func TestAckedInRecoveryMovesTheClock(t *testing.T) {
	c := made(t, 1200)
	cuts(t, "P11.3", c, 100, 0, true)
	c.Acked(700, 50, 1000, false)
	cuts(t, "P11.3: behind the cut", c, 300, 101, true)
	views(t, "P11.3: Began is the clock", c, win(5880, 5880, 0, 700))
}
