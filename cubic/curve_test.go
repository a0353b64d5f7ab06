package cubic

import (
	"math"
	"testing"

	"portage/api"
)

// A window of 12800, cut to 8960, lacks 3840 = 480 x 2 x 2 x 2 to where it was: K is two seconds, to the microsecond.
// At half a second behind K the curve is 480 / 8 = 60 above PEAK, just there, and a microsecond ahead of it not yet.

func TestTheCurve(t *testing.T) {
	for _, x := range []struct {
		say        string
		span, size int64 // since EPOCH
	}{
		{"at EPOCH: EST is above it", 0, 9595},
		{"a little behind it: EST is above it", 100000, 9595},
		{"where it passes EST", 118600, 9603},
		{"a second ahead of K", second, 12320},
		{"just ahead of that", second - 1, 12319},
		{"half a second ahead of K", 2*second - 500000, 12740},
		{"just ahead of that, too", 2*second - 500001, 12739},
		{"so near to K that nothing is lacking", 2*second - 12, 12800}, // 480 x 12^3 / 10^18 is less than half of what 12800 is kept to
		{"not so near", 2*second - 13, 12799},
		{"one below K", 2*second - 1, 12800},
		{"at K", 2 * second, 12800},
		{"one above K", 2*second + 1, 12800},
		{"a tenth of a second above K", 2*second + 100000, 12800}, // 0.48 above it
		{"half a second above K", 2*second + 500000, 12860},
		{"just ahead of that, above K", 2*second + 499999, 12859},
		{"a second above K", 3 * second, 13280},
		{"just ahead of a second above K", 3*second - 1, 13279},
		{"where it comes to half as much again as Size", 3100700, 13440},
		{"just ahead of that, at the end", 3100600, 13439},
		{"a second more", 4 * second, 13440},
		{"an hour", 3600 * second, 13440},
		{"a year", 365 * 86400 * second, 13440},
		{"as long as there is", api.MaxTime, 13440},
		{"longer than there is", math.MaxInt64 - 2000, 13440},
	} {
		c := fallen(t, 1200, 12800)
		begin(t, c, 2000)
		whole(c, 2000+x.span)
		views(t, "P11.2: "+x.say, c, win(x.size, 8960, 0, 1000))
	}
}

// The curve begins at the first acknowledgement behind the cut that raises, be it one of no byte, not at the cut.
func TestEpochIsTheClock(t *testing.T) {
	for _, x := range []struct {
		say          string
		first, epoch int64
	}{
		{"at the cut", 1000, 1000}, {"a moment later", 1001, 1001}, {"seconds later", 7 * second, 7 * second},
		{"a now that has passed", 3, 1000}, {"a now below 0", -1, 1000}, {"a now of the least", math.MinInt64, 1000},
	} {
		for _, early := range []int64{0, 1} {
			c := fallen(t, 1200, 12800)
			c.Acked(x.first, 1001, 0, false)
			whole(c, x.epoch+2*second+500000-early)
			sized(t, "P11.2: EPOCH is the clock, "+x.say, c, 12860-early)
		}
	}
}

// An EPOCH of 0 is one: the curve began.
func TestEpochAtZero(t *testing.T) {
	c := risen(t, 1200, 12800)
	cuts(t, "P11.3", c, 0, 0, true)
	c.Acked(0, 1, 0, false)
	c.Acked(second, 1, 0, false)
	c.Acked(2*second+500000, 1, 8960, false)
	views(t, "P11.2: it began at 0", c, win(12860, 8960, 0, 0))
}

// At the end of time the curve begins, and stands still.
func TestEpochAtTheEnd(t *testing.T) {
	c := back(t, 1200, 12800, 12800)
	c.Acked(api.MaxTime+5, 0, 0, false)
	c.Acked(math.MaxInt64, 0, 12800, false)
	views(t, "P11.2: at MaxTime", c, win(14000, 8960, 0, -1))
}

// The time that has passed counts by the clock: a now that has passed does not take the curve back.
func TestTheCurveGoesByTheClock(t *testing.T) {
	c := fallen(t, 1200, 12800)
	begin(t, c, 2000)
	begin(t, c, 2000+second)
	whole(c, 2000)
	sized(t, "P11.2: a second behind EPOCH", c, 12320)
	c = fallen(t, 1200, 12800)
	begin(t, c, 2000)
	cuts(t, "P11.3: ahead of the cut", c, 2000+second, 1000, false)
	c.Acked(-5, 1001, 8960, false)
	sized(t, "P11.2: the clock was moved by an Event", c, 12320)
}

// K is the least span whose CUBE is enough, to the microsecond: half a second behind it the curve is a twentieth of mtu above PEAK, one ahead of that not yet.
func TestTheWait(t *testing.T) {
	for _, x := range []struct {
		say       string
		mtu       int
		peak, low int64 // low: what it is cut to
		wait      int64
	}{
		{"CUBE is just what is lacking", 1200, 12800, 8960, 2000000},
		{"the same, cut from one less", 1200, 12799, 8959, 2000000},
		{"the same, cut from three less", 1200, 12797, 8957, 2000000},
		{"a byte less is lacking", 1200, 12796, 8957, 1999827},
		{"a byte more is lacking", 1200, 12801, 8960, 2000174},
		{"the example's", 1200, 21600, 15120, 2381102},
		{"of the first window", 1200, 12000, 8400, 1957434},
		{"of a great window", 1200, 65400, 45780, 3444710},
		{"of a greater one", 1200, 90000, 63000, 3831548},
		{"of an mtu in the midst", 1480, 14800, 10360, 1957434},
		{"of the greatest mtu", 9000, 36000, 25200, 1442250},
		{"of the greatest mtu, a great window", 9000, 90000, 63000, 1957434},
	} {
		for _, early := range []int64{0, 1} {
			c := fallen(t, x.mtu, x.peak)
			views(t, "P11.3: "+x.say, c, win(x.low, x.low, 0, 1000))
			begin(t, c, 5000)
			whole(c, 5000+x.wait+500000-early)
			sized(t, "P11.2: K, "+x.say, c, x.peak+int64(x.mtu)/20-early)
		}
	}
}

// As the curve begins, a Size just below PEAK has a K, and a plain controller that gains less; from PEAK on there is neither.
func TestSizeBesidePeak(t *testing.T) {
	for _, x := range []struct {
		say              string
		size             int64
		plain, far, near int64 // at EPOCH; two seconds behind EPOCH + K; a microsecond ahead of that
		wait             int64
	}{
		{"two below", 12798, 12798 + 635, 12800 + 3840, 12800 + 3839, 160915},
		{"one below", 12799, 12799 + 635, 12800 + 3840, 12800 + 3839, 127719},
		{"at it", 12800, 12800 + 1200, 12800 + 3840, 12800 + 3839, 0},
		{"one above", 12801, 12801 + 1200, 12801 + 3840, 12801 + 3839, 0},
		{"far above", 30000, 30000 + 1200, 30000 + 3840, 30000 + 3839, 0},
	} {
		c := back(t, 1200, 12800, x.size)
		whole(c, 5000)
		sized(t, "P11.2: EST, Size being "+x.say, c, x.plain)
		for early, want := range []int64{x.far, x.near} {
			c = back(t, 1200, 12800, x.size)
			begin(t, c, 5000)
			whole(c, 5000+x.wait+2*second-int64(early))
			sized(t, "P11.2: the curve, Size being "+x.say, c, want)
		}
	}
}

// Each whole window that is acknowledged gains 900, as long as EST is below PEAK (1700 x 9 / 17), and 1700 from there on.
func TestThePlainOneBesidePeak(t *testing.T) {
	for _, x := range []struct {
		say             string
		peak, low, gain int64
	}{
		{"two below", 15002, 10501, 900},
		{"one below", 15001, 10500, 900},
		{"at it", 15000, 10500, 1700},
		{"at it, cut otherwise", 14999, 10499, 1700},
		{"one above", 14995, 10496, 1700},
	} {
		c := fallen(t, 1700, x.peak)
		size := x.low
		for range 5 {
			whole(c, 2000)
			size += 900
			sized(t, "P11.2: EST below PEAK", c, size)
		}
		whole(c, 2000)
		sized(t, "P11.2: EST "+x.say, c, size+x.gain)
		whole(c, 2000)
		sized(t, "P11.2: EST above PEAK", c, size+x.gain+1700)
	}
}

// At its height the window waits, and the plain controller comes after; when that is above, it leads.
func TestTheWindowWaits(t *testing.T) {
	c := fallen(t, 1200, 12800)
	begin(t, c, 2000)
	// EST is 9595 and a little, and 635 more with each till it is above 12800, then 1200 more.
	for _, want := range []int64{12800, 12800, 12800, 12800, 12800, 12800, 13407, 14607, 15807} {
		whole(c, 2000+2*second)
		sized(t, "P11.2: at its height", c, want)
	}
}

// The greatest one of three, and half as much again as Size at most.
func TestTheTarget(t *testing.T) {
	for _, x := range []struct {
		say         string
		size, span  int64
		acked, more int64
	}{
		{"the curve", 8960, 2 * second, 1200, 514}, // (12800 - 8960) x 1200 / 8960
		{"the curve, rounded down", 8960, 2 * second, 1201, 514},
		{"EST", 8960, 0, 4480, 158}, // (600 x 9 / 17) x 4480 / 8960
		{"EST, the curve being a little below", 8960, 50000, 4480, 158},
		{"1.5 x Size", 8960, 10 * second, 1200, 600}, // half of what was acknowledged
		{"1.5 x Size, of an odd size", 8960, 10 * second, 1201, 600},
		{"1.5 x Size, of one byte", 8960, 10 * second, 1, 0},
		{"1.5 x Size, of two bytes", 8960, 10 * second, 2, 1},
		{"1.5 x Size, of an odd Size", 8961, 10 * second, 8961, 4480},
		{"Size, at its height", 12800, 0, 0, 0},
		{"the curve is far above", 20000, 10 * second, 2000, 1000},
		{"nothing is acknowledged, the curve being far above", 20000, 10 * second, 0, 0},
	} {
		c := back(t, 1200, 12800, x.size)
		begin(t, c, 5000)
		c.Acked(5000+x.span, 0, x.acked, false)
		sized(t, "P11.2: TARGET is "+x.say, c, x.size+x.more)
	}
}

// Where Size has come to its target, nothing is gained: neither by a datagram nor by a window.
func TestTheTargetIsSize(t *testing.T) {
	for _, acked := range []int64{1, 1200, 12800, 65535} {
		c := fallen(t, 1200, 12800)
		begin(t, c, 2000)
		whole(c, 2000+2*second)
		for range 3 {
			c.Acked(2000+2*second, 2000, acked, false)
			views(t, "P11.2: TARGET is Size", c, win(12800, 8960, 0, 1000))
		}
	}
}

// A plain controller leads from the least window to half as much again, no further.
func TestThePlainOneAtTheLeast(t *testing.T) {
	c := fallen(t, 9000, 18000)
	views(t, "P11.3: at the least", c, win(18000, 12600, 0, 1000))
	whole(c, 2000)
	sized(t, "P11.2: EST, and 1.5 x Size", c, 27000)
	whole(c, 2000)
	sized(t, "P11.2: EST", c, 36000)
}

// Parts of a byte are kept till they are one: 3840 / 8960 of each byte that is acknowledged, at the curve's height.
func TestParts(t *testing.T) {
	for _, x := range []struct {
		say    string
		pieces []int64
		more   []int64
	}{
		{"one by one", []int64{1, 1, 1, 1, 1, 1, 1}, []int64{0, 0, 1, 1, 2, 2, 2}}, // 0.428.. each, and a little less behind each raise
		{"at once", []int64{7}, []int64{3}},
		{"just a byte", []int64{2, 1, 2}, []int64{0, 1, 2}},
		{"several at once", []int64{100, 1}, []int64{42, 43}},
		{"none by nothing", []int64{1, 0, 1, 0, 0, 1, 0}, []int64{0, 0, 0, 0, 0, 1, 1}},
		{"none by less than nothing", []int64{2, -1, -65535, 1}, []int64{0, 0, 0, 1}},
	} {
		c := fallen(t, 1200, 12800)
		begin(t, c, 2000)
		for i, n := range x.pieces {
			c.Acked(2000+2*second, 2000, n, false)
			sized(t, "P11.2: parts, "+x.say, c, 8960+x.more[i])
		}
	}
}

// Half of each byte, by the bound of 1.5 x Size: the second half makes it whole, just so.
func TestHalves(t *testing.T) {
	c := fallen(t, 1200, 12800)
	begin(t, c, 2000)
	size := int64(8960)
	for i := range int64(40) {
		c.Acked(2000+60*second, 2000, 1, false)
		size += i % 2
		sized(t, "P11.2: halves", c, size)
	}
}

// The plain controller's way counts from the Size of each acknowledgement: by datagrams the window lags behind it.
func TestThePlainOneByDatagrams(t *testing.T) {
	c := fallen(t, 1200, 12000)
	for _, want := range []int64{8412, 8437, 8470, 8511, 8559, 8613} {
		c.Acked(2000, 2000, 1200, false)
		views(t, "P11.2: EST, by datagrams", c, win(want, 8400, 0, 1000))
	}
}

// In another order, or by a factor in place of a division, the last bit would be another, and here a whole byte hangs on it.
func TestTheOrderOfTheOperations(t *testing.T) {
	type piece struct{ span, acked, size int64 } // acked -1: a window; size: what Size is then
	for _, x := range []struct {
		say        string
		mtu        int
		peak, size int64
		pieces     []piece
	}{
		{"s is d / 1000000", 1250, 18520, 18520, []piece{{2500000, -1, 26332}, {2700000, -1, 28362}}},
		{"0.4 x mtu comes first", 1250, 25570, 28937, []piece{{4000000, -1, 43405}, {4100000, -1, 63397}}},
		{"GAIN is (size x mtu) / Size", 2000, 19180, 13426, []piece{{0, 6713, 13690}, {0, -1, 15014}, {0, -1, 16073}}},
		{"the product comes first, not size / Size", 8800, 48550, 48550, []piece{{0, -1, 57350}, {5000000, 4, 57352}}},
		{"the product comes first, not the way / Size", 1700, 54000, 54000, []piece{{0, 27000, 54425}}},
		{"the product comes first, by a window", 2000, 21020, 23482, []piece{{0, -1, 25482}}},
	} {
		c := back(t, x.mtu, x.peak, x.size)
		begin(t, c, 5000)
		for _, p := range x.pieces {
			if p.acked < 0 {
				p.acked = c.View().Size
			}
			c.Acked(5000+p.span, 0, p.acked, false)
			sized(t, "P11.2: "+x.say, c, p.size)
		}
	}
}
