package reno

import (
	"math"
	"testing"

	"portage/api"
)

// Began is the clock: now, taken into 0 to MaxTime.
func TestEventBegins(t *testing.T) {
	for _, x := range []struct{ now, began int64 }{
		{math.MinInt64, 0}, {-1, 0}, {0, 0}, {1, 1}, {12345, 12345}, {api.MaxTime - 1, api.MaxTime - 1},
		{api.MaxTime, api.MaxTime}, {api.MaxTime + 1, api.MaxTime}, {api.Never, api.MaxTime}, {math.MaxInt64, api.MaxTime},
	} {
		for _, sent := range []int64{math.MinInt64, -1, 0, 5, api.MaxTime, math.MaxInt64} {
			c := made(t, 1200)
			cuts(t, "P10.4: there was none", c, x.now, sent, true)
			views(t, "P10.4: cut", c, win(6000, 6000, 0, x.began))
		}
	}
}

func TestEventBesideBegan(t *testing.T) {
	for _, x := range []struct {
		began, sent int64
		cuts        bool
	}{
		{100, math.MinInt64, false}, {100, -1, false}, {100, 0, false}, {100, 99, false}, {100, 100, false}, {100, 101, true},
		{100, api.MaxTime, true}, {100, math.MaxInt64, true},
		{0, math.MinInt64, false}, {0, -2, false}, {0, -1, false}, {0, 0, false}, {0, 1, true},
		{api.MaxTime, api.MaxTime - 1, false}, {api.MaxTime, api.MaxTime, false}, {api.MaxTime, api.MaxTime + 1, false}, {api.MaxTime, math.MaxInt64, false},
		{api.MaxTime - 1, api.MaxTime - 1, false}, {api.MaxTime - 1, api.MaxTime, true}, {api.MaxTime - 1, api.MaxTime + 1, true},
	} {
		c := made(t, 1200)
		c.Sent(700)
		cuts(t, "P10.4: the first", c, x.began, 0, true)
		cuts(t, "P10.4: sent beside Began", c, x.began+1, x.sent, x.cuts)
		want := win(6000, 6000, 700, x.began)
		if x.cuts {
			want = win(3000, 3000, 700, min(x.began+1, api.MaxTime))
		}
		views(t, "P10.4: sent beside Began", c, want)
	}
}

// The clock never goes back: a second cut at a time that has passed begins where the clock is.
func TestEventAtATimeThatHasPassed(t *testing.T) {
	c := made(t, 1200)
	cuts(t, "P10.4: the first", c, 500, 0, true)
	cuts(t, "P10.4: now has passed", c, 200, 501, true)
	views(t, "P10.4: now has passed", c, win(3000, 3000, 0, 500))
	cuts(t, "P10.4: sent is held against the clock's Began", c, 300, 500, false)
	cuts(t, "P10.4: now is below 0", c, -9, 501, true)
	views(t, "P10.4: now is below 0", c, win(2400, 1500, 0, 500))
}

// An Event that is false moves the clock, and nothing else: not the rest, either.
func TestEventThatIsFalse(t *testing.T) {
	c := made(t, 1200)
	cuts(t, "P10.4: the first", c, 100, 0, true)
	c.Sent(9000)
	acks(c, 150, 101, 5999)
	cuts(t, "P10.4: ahead of the cut", c, 800, 100, false)
	views(t, "P10.4: nothing is another", c, win(6000, 6000, 3001, 100))
	c.Acked(160, 101, 1, false)
	views(t, "P10.4: the rest is as it was", c, win(7200, 6000, 3000, 100))
	cuts(t, "P10.4: behind the cut", c, 200, 101, true)
	views(t, "P10.4: the clock was moved", c, win(3600, 3600, 3000, 800))
}

// sent moves nothing: neither that of an Event that is true, nor that of one that is false.
func TestEventsSentMovesNothing(t *testing.T) {
	c := made(t, 1200)
	cuts(t, "P10.4: sent later than now", c, 100, 900, true)
	views(t, "P10.4: sent later than now", c, win(6000, 6000, 0, 100))
	cuts(t, "P10.4: sent later than now, again", c, 110, math.MaxInt64, true)
	views(t, "P10.4: sent later than now, again", c, win(3000, 3000, 0, 110))
	cuts(t, "P10.4: ahead of the cut", c, 110, 105, false)
	cuts(t, "P10.4: the last", c, 120, 111, true)
	views(t, "P10.4: the last", c, win(2400, 1500, 0, 120))
}

func TestEventCuts(t *testing.T) {
	for _, x := range []struct {
		say                   string
		mtu                   int
		raise                 int64 // in slow start ahead of it
		size, half, threshold int64
	}{
		{"even", 1200, 0, 12000, 6000, 6000},
		{"odd", 1200, 1, 12001, 6000, 6000},
		{"even again", 1200, 2, 12002, 6001, 6001},
		{"a great one", 1200, 65535, 77535, 38767, 38767},
		{"where the first Size turns", 1472, 0, 14720, 7360, 7360},
		{"a half that is at 2 mtu", 3680, 0, 14720, 7360, 7360},
		{"a half that is one below it", 3681, 1, 14721, 7362, 7360},
		{"a half that is two below it", 3681, 0, 14720, 7362, 7360},
		{"a half that is at it, rounded down", 3680, 1, 14721, 7360, 7360},
		{"a half that is one above it", 3680, 2, 14722, 7361, 7361},
		{"the greatest mtu", 9000, 0, 18000, 18000, 9000},
		{"the greatest mtu, odd", 9000, 17999, 35999, 18000, 17999},
		{"the greatest mtu, at 4 mtu", 9000, 18000, 36000, 18000, 18000},
		{"the greatest mtu, above", 9000, 18002, 36002, 18001, 18001},
	} {
		c := made(t, x.mtu)
		c.Acked(1, 1, x.raise, false)
		views(t, "P10.3: "+x.say, c, win(x.size, open, 0, -1))
		cuts(t, "P10.4: "+x.say, c, 10, 1, true)
		views(t, "P10.4: "+x.say, c, win(x.half, x.threshold, 0, 10))
	}
}

// A cut of the least window leaves it, and still halves the threshold; it begins a period of its own.
func TestEventAtTheLeast(t *testing.T) {
	c := made(t, 1200)
	for i, want := range []api.Window{win(6000, 6000, 0, 10), win(3000, 3000, 0, 20), win(2400, 1500, 0, 30), win(2400, 1200, 0, 40), win(2400, 1200, 0, 50)} {
		now := 10 * int64(i+1)
		cuts(t, "P10.4: one behind the other", c, now, now-1, true)
		views(t, "P10.4: one behind the other", c, want)
	}
}

// What stood in the rest is gone with a cut.
func TestEventClearsTheRest(t *testing.T) {
	c := made(t, 1200)
	cuts(t, "P10.4: the first", c, 100, 0, true)
	acks(c, 110, 101, 2999)
	cuts(t, "P10.4: the second", c, 120, 101, true)
	views(t, "P10.4: the second", c, win(3000, 3000, 0, 120))
	acks(c, 130, 121, 2999)
	views(t, "P10.4: REST was 0", c, win(3000, 3000, 0, 120))
	c.Acked(130, 121, 1, false)
	views(t, "P10.4: REST was 0", c, win(4200, 3000, 0, 120))
}

func TestCollapse(t *testing.T) {
	for _, mtu := range []int{1200, 1472, 7360, 9000} {
		c := made(t, mtu)
		least := 2 * int64(mtu)
		c.Sent(5000)
		c.Collapse()
		views(t, "P10.5: of a new one", c, win(least, open, 5000, -1))
		c.Collapse()
		views(t, "P10.5: twice", c, win(least, open, 5000, -1))
		c.Acked(3, 3, 1000, false)
		views(t, "P10.5: slow start without a Threshold", c, win(least+1000, open, 4000, -1))
		cuts(t, "P10.4: behind it", c, 10, 0, true)
		c.Collapse()
		views(t, "P10.5: Threshold stays", c, win(least, (least+1000)/2, 4000, -1))
	}
}

// Behind a Collapse there is no recovery period: what was sent ahead of the cut raises and cuts again.
func TestCollapseForgetsTheCut(t *testing.T) {
	for _, sent := range []int64{math.MinInt64, 0, 99, 100, 101} {
		c := made(t, 1200)
		cuts(t, "P10.4: the first", c, 100, 0, true)
		c.Collapse()
		c.Acked(110, sent, 700, false)
		views(t, "P10.5: raised by what was sent ahead of the cut", c, win(3100, 6000, 0, -1))
		cuts(t, "P10.5: cut by what was sent ahead of the cut", c, 120, sent, true)
		views(t, "P10.5: cut by what was sent ahead of the cut", c, win(2400, 1550, 0, 120))
		cuts(t, "P10.4: once a period", c, 130, 120, false)
	}
}

// The clock isn't forgotten.
func TestCollapseKeepsTheClock(t *testing.T) {
	c := made(t, 1200)
	cuts(t, "P10.4: the first", c, 100, 0, true)
	c.Collapse()
	cuts(t, "P10.4: now has passed", c, 50, 20, true)
	views(t, "P10.4: Began is the clock", c, win(2400, 1200, 0, 100))
}

func TestCollapseClearsTheRest(t *testing.T) {
	c := made(t, 1200)
	for i := range int64(3) {
		cuts(t, "P10.4: down", c, 10+i, 10+i, true)
	}
	views(t, "P10.4: down", c, win(2400, 1500, 0, 12))
	c.Acked(20, 20, 2399, false)
	c.Collapse()
	c.Acked(20, 20, 2399, false)
	views(t, "P10.5: REST was 0", c, win(2400, 1500, 0, -1))
	c.Acked(20, 20, 1, false)
	views(t, "P10.5: REST was 0", c, win(3600, 1500, 0, -1))
}
