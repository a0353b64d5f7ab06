package cubic

import (
	"math"
	"testing"

	"portage/api"
)

// Began is the clock: now, taken into 0 to MaxTime.
func TestEventBegins(t *testing.T) {
	for _, x := range []struct{ now, began int64 }{
		{math.MinInt64, 0}, {-1, 0}, {0, 0}, {1, 1}, {12345, 12345}, {api.MaxTime - 1, api.MaxTime - 1},
		{api.MaxTime, api.MaxTime}, {api.MaxTime + 1, api.MaxTime}, {api.Never, api.MaxTime}, {math.MaxInt64, api.MaxTime},
	} {
		for _, sent := range []int64{math.MinInt64, -1, 0, 5, api.MaxTime, math.MaxInt64} {
			c := made(t, 1200)
			cuts(t, "P11.3: there was none", c, x.now, sent, true)
			views(t, "P11.3: cut", c, win(8400, 8400, 0, x.began))
		}
	}
}

func TestEventBesideBegan(t *testing.T) {
	for _, x := range beside {
		c := made(t, 1200)
		c.Sent(700)
		cuts(t, "P11.3: the first", c, x.began, 0, true)
		cuts(t, "P11.3: sent beside Began", c, x.began+1, x.sent, x.behind)
		want := win(8400, 8400, 700, x.began)
		if x.behind {
			want = win(5880, 5880, 700, min(x.began+1, api.MaxTime))
		}
		views(t, "P11.3: sent beside Began", c, want)
	}
}

// The clock never goes back: a second cut at a time that has passed begins where the clock is.
func TestEventAtATimeThatHasPassed(t *testing.T) {
	c := made(t, 1200)
	cuts(t, "P11.3: the first", c, 500, 0, true)
	cuts(t, "P11.3: now has passed", c, 200, 501, true)
	views(t, "P11.3: now has passed", c, win(5880, 5880, 0, 500))
	cuts(t, "P11.3: sent is held against the clock's Began", c, 300, 500, false)
	cuts(t, "P11.3: now is below 0", c, -9, 501, true)
	views(t, "P11.3: now is below 0", c, win(4116, 4116, 0, 500))
}

// An Event that is false moves the clock, and nothing else: neither PART nor the curve.
func TestEventThatIsFalse(t *testing.T) {
	c := fallen(t, 1200, 12800)
	c.Sent(9000)
	begin(t, c, 2000)
	for range 2 {
		c.Acked(2000+2*second, 2000, 1, false)
	}
	cuts(t, "P11.3: ahead of the cut", c, 2000+2*second, 1000, false)
	views(t, "P11.3: nothing is another", c, win(8960, 8960, 8998, 1000))
	c.Acked(2000, 2000, 1, false)
	views(t, "P11.3: PART is as it was", c, win(8961, 8960, 8997, 1000))
	cuts(t, "P11.3: ahead of the cut, later", c, 2000+3*second, 999, false)
	whole(c, 2000)
	views(t, "P11.3: the clock was moved, on the same curve", c, win(13280, 8960, 36, 1000))
	cuts(t, "P11.3: ahead of the cut, later still", c, 9*second, 0, false)
	cuts(t, "P11.3: behind the cut", c, 200, 1001, true)
	views(t, "P11.3: the clock was moved", c, win(9296, 9296, 36, 9*second))
}

// sent moves nothing: neither that of an Event that is true, nor that of one that is false.
func TestEventsSentMovesNothing(t *testing.T) {
	c := made(t, 1200)
	cuts(t, "P11.3: sent later than now", c, 100, 900, true)
	views(t, "P11.3: sent later than now", c, win(8400, 8400, 0, 100))
	cuts(t, "P11.3: sent later than now, again", c, 110, math.MaxInt64, true)
	views(t, "P11.3: sent later than now, again", c, win(5880, 5880, 0, 110))
	cuts(t, "P11.3: ahead of the cut", c, 110, 105, false)
	cuts(t, "P11.3: the last", c, 120, 111, true)
	views(t, "P11.3: the last", c, win(4116, 4116, 0, 120))
}

func TestEventCuts(t *testing.T) {
	for _, x := range []struct {
		say                  string
		mtu                  int
		size, end, threshold int64
	}{
		{"a whole number of tenths", 1200, 12000, 8400, 8400},
		{"7 tenths of one more are rounded down", 1200, 12001, 8400, 8400},
		{"4 tenths are rounded down", 1200, 12002, 8401, 8401},
		{"1 tenth is rounded down", 1200, 12003, 8402, 8402},
		{"9 tenths are rounded down", 1200, 12007, 8404, 8404},
		{"3 tenths are rounded down", 1200, 12009, 8406, 8406},
		{"a whole number again", 1200, 12010, 8407, 8407},
		{"a great one", 1200, 77535, 54274, 54274},
		{"one that is greater than any size", 1200, 1000003, 700002, 700002},
		{"where the first Size turns", 1472, 14720, 10304, 10304},
		{"at 2 mtu", 5152, 14720, 10304, 10304},
		{"one below 2 mtu, and one byte above", 5153, 14722, 10306, 10305},
		{"at 2 mtu, rounded down", 5153, 14724, 10306, 10306},
		{"one above 2 mtu", 5153, 14725, 10307, 10307},
		{"the greatest mtu", 9000, 18000, 18000, 12600},
		{"the greatest mtu, one below 2 mtu", 9000, 25714, 18000, 17999},
		{"the greatest mtu, at 2 mtu", 9000, 25715, 18000, 18000},
		{"the greatest mtu, one above", 9000, 25716, 18001, 18001},
	} {
		c := risen(t, x.mtu, x.size)
		cuts(t, "P11.3: "+x.say, c, 10, 1, true)
		views(t, "P11.3: "+x.say, c, win(x.end, x.threshold, 0, 10))
	}
}

// One behind the other: at the least window Size stays, and what hangs on it is still cut; each begins a period of its own.
func TestEventsInARow(t *testing.T) {
	for i, x := range []struct {
		say         string
		size, after int64 // after: Size behind a window that is acknowledged at once: 635 more below PEAK, else 1200
	}{
		{"PEAK is 12000", 8400, 9035},
		{"PEAK is 7140", 5880, 6515},
		{"PEAK is 4998", 4116, 4751},
		{"PEAK is 3498.6", 2881, 3516},
		{"PEAK is 2448.85, Size the least", 2400, 3035},
		{"PEAK is 2040, below Size", 2400, 3600},
		{"PEAK is 2400, at Size", 2400, 3600},
		{"PEAK is 2400 again", 2400, 3600},
	} {
		c := made(t, 1200)
		size := int64(12000)
		for n := range int64(i + 1) {
			threshold := 7 * size / 10
			size = max(threshold, 2400)
			cuts(t, "P11.3: one behind the other", c, 10*n, 10*n, true)
			views(t, "P11.3: one behind the other", c, win(size, threshold, 0, 10*n))
		}
		sized(t, "P11.3: "+x.say, c, x.size)
		whole(c, 1000)
		sized(t, "P11.3: "+x.say+", by the plain controller's gain", c, x.after)
	}
}

// PEAK is Size, or 0.85 of it, if Size had not come back to the last one: it shows in the curve, half a second behind K.
func TestEventBesidePeak(t *testing.T) {
	for _, x := range []struct {
		say              string
		first, size, low int64
		peak, wait       int64
	}{
		{"one below it", 20001, 20000, 14000, 17000, 1842016},
		{"below it", 21600, 19980, 13986, 16983, 1841402},
		{"far below it", 40000, 20000, 14000, 17000, 1842016},
		{"at it", 20000, 20000, 14000, 20000, 2320795},
		{"one above it", 20000, 20001, 14000, 20001, 2320924},
	} {
		for _, early := range []int64{0, 1} {
			c := back(t, 1200, x.first, x.size)
			cuts(t, "P11.3: Size "+x.say, c, 2000, 0, true)
			views(t, "P11.3: Size "+x.say, c, win(x.low, x.low, 0, 2000))
			begin(t, c, 7000)
			whole(c, 7000+x.wait+500000-early)
			sized(t, "P11.3: PEAK, Size being "+x.say, c, x.peak+60-early)
		}
	}
}

// A curve that a cut ends is forgotten: the next one begins anew, later.
func TestEventEndsTheCurve(t *testing.T) {
	for _, early := range []int64{0, 1} {
		c := fallen(t, 1200, 12800)
		begin(t, c, 2000)
		cuts(t, "P11.3: on the curve", c, second, 2000, true)
		views(t, "P11.3: on the curve", c, win(6272, 6272, 0, second)) // PEAK 8960 x 0.85
		begin(t, c, 5*second)
		whole(c, 5*second+1409460+500000-early)
		sized(t, "P11.3: the curve begins anew", c, 7616+60-early)
	}
}

// least is one at the least window, above its threshold and at its PEAK: 60 bytes that are acknowledged gain 30 x 60 / 2400 = 0.75 there.
func least(t *testing.T) *Ctl {
	t.Helper()
	c := made(t, 1200)
	for i := range int64(7) {
		cuts(t, "P11.3: down", c, 10+i, 10+i, true)
	}
	views(t, "P11.3: down", c, win(2400, 1680, 0, 16))
	return c
}

// PART, EST and EPOCH are gone with a cut, and with a collapse.
func TestACutClearsTheCurve(t *testing.T) {
	c := least(t)
	c.Acked(20, 20, 60, false)
	sized(t, "P11.2: 0.75", c, 2400)
	c.Acked(20, 20, 60, false)
	sized(t, "P11.2: 0.75 and 1.5", c, 2402)
	for _, x := range []struct {
		say string
		cut func(c *Ctl, now int64)
	}{
		{"P11.3: Event", func(c *Ctl, now int64) { c.Event(now, now) }},
		{"P11.4: Collapse", func(c *Ctl, now int64) { c.Collapse() }},
	} {
		c = least(t)
		for i := range int64(5) {
			now := 20 + i*10*second
			c.Acked(now, now, 60, false)
			sized(t, x.say+", and 0.75 behind it", c, 2400)
			x.cut(c, now)
		}
		c.Acked(60*second, 60*second, 60, false)
		c.Acked(60*second, 60*second, 60, false)
		sized(t, x.say+", and 0.75 and 1.5 behind it", c, 2402)
	}
}

func TestCollapse(t *testing.T) {
	for _, mtu := range []int{1200, 1472, 7360, 9000} {
		c := made(t, mtu)
		least := 2 * int64(mtu)
		c.Sent(5000)
		c.Collapse()
		views(t, "P11.4: of a new one", c, win(least, open, 5000, -1))
		c.Collapse()
		views(t, "P11.4: twice", c, win(least, open, 5000, -1))
		c.Acked(3, 3, 1000, false)
		views(t, "P11.4: slow start without a Threshold", c, win(least+1000, open, 4000, -1))
		cuts(t, "P11.3: behind it", c, 10, 0, true)
		c.Collapse()
		views(t, "P11.4: Threshold stays", c, win(least, 7*(least+1000)/10, 4000, -1))
	}
}

// Behind a Collapse there is no recovery period: what was sent ahead of the cut raises and cuts again.
func TestCollapseForgetsTheCut(t *testing.T) {
	for _, sent := range []int64{math.MinInt64, 0, 99, 100, 101} {
		c := made(t, 1200)
		cuts(t, "P11.3: the first", c, 100, 0, true)
		c.Collapse()
		c.Acked(110, sent, 700, false)
		views(t, "P11.4: raised by what was sent ahead of the cut", c, win(3100, 8400, 0, -1))
		cuts(t, "P11.4: cut by what was sent ahead of the cut", c, 120, sent, true)
		views(t, "P11.4: cut by what was sent ahead of the cut", c, win(2400, 2170, 0, 120))
		cuts(t, "P11.3: once a period", c, 130, 120, false)
	}
}

// The clock isn't forgotten.
func TestCollapseKeepsTheClock(t *testing.T) {
	c := made(t, 1200)
	cuts(t, "P11.3: the first", c, 100, 0, true)
	c.Collapse()
	cuts(t, "P11.3: now has passed", c, 50, 20, true)
	views(t, "P11.3: Began is the clock", c, win(2400, 1680, 0, 100))
}

// PEAK stays, though the window collapsed on the curve, or twice: the next curve, a new one, leads back to it.
func TestCollapseKeepsThePeak(t *testing.T) {
	for _, times := range []int{1, 2} {
		for _, early := range []int64{0, 1} {
			c := fallen(t, 1200, 12800)
			begin(t, c, 2000)
			for range times {
				c.Collapse()
				c.Acked(second, 0, 6560, false)
				views(t, "P11.4: slow start to the threshold", c, win(8960, 8960, 0, -1))
			}
			begin(t, c, 100*second)
			whole(c, 100*second+2*second+500000-early)
			views(t, "P11.4: PEAK stays", c, win(12860-early, 8960, 0, -1))
		}
	}
}

// A cut from below PEAK, the window having collapsed: PEAK is 0.85 of where the window was, not of the peak.
func TestEventBehindACollapse(t *testing.T) {
	c := back(t, 1200, 12800, 5000)
	cuts(t, "P11.3: sent ahead of the first cut", c, 2000, 500, true)
	views(t, "P11.3: sent ahead of the first cut", c, win(3500, 3500, 0, 2000))
	begin(t, c, 3000)
	// PEAK is 4250: 750 above Size, which is less than 1.5 x Size allows.
	whole(c, 3000+1160398)
	sized(t, "P11.3: PEAK is 4250", c, 4250)
}
