package pace

import (
	"math"
	"testing"

	"portage/api"
)

// emptied is one whose rate holds from 0 on, with LEFT 0 at 0.
func emptied(t *testing.T, burst, window, smooth int64) *Pacer {
	t.Helper()
	p := made(t, burst)
	p.Set(0, window, smooth)
	p.Spend(0, burst)
	return p
}

func TestFills(t *testing.T) {
	for _, x := range []struct {
		say               string
		window, smooth, d int64
		left, rest        int64
	}{
		{"no time", 12000, 50000, 0, 0, 0},
		{"one microsecond", 12000, 50000, 1, 0, 60000},
		{"just below a byte", 12000, 50000, 3, 0, 180000},
		{"a byte and more", 12000, 50000, 4, 1, 40000},
		{"three in ten", 12000, 50000, 10, 3, 0},
		{"just below a datagram", 12000, 50000, 3999, 1199, 140000},
		{"a datagram", 12000, 50000, 4000, 1200, 0},
		{"a rate that is no whole one", 1234, 777, 1000, 1985, 620},
		{"a byte a microsecond", 4, 5, 1999, 1999, 0},
		{"the least rate that is one", 1, api.MaxSpan, 1, 0, 5},
		{"the least rate, just below a byte", 1, api.MaxSpan, 54975581388, 0, 1<<38 - 4},
		{"the least rate, a byte", 1, api.MaxSpan, 54975581389, 1, 1},
		{"the least rate, as long as can be", 1, api.MaxSpan, api.MaxTime, 20480, 0},
		{"the greatest window in the greatest span", 1 << 40, api.MaxSpan, 1, 20, 0},
		{"the greatest window in the greatest span, for longer", 1 << 40, api.MaxSpan, 3000, 60000, 0},
		{"the greatest window but one in the greatest span", 1<<40 - 1, api.MaxSpan, 1, 19, 1<<38 - 5},
		{"a window of one in the least span", 1, 1, 1, 1, 1},
		{"a window of one in the least span, for longer", 1, 1, 3, 3, 3},
	} {
		p := emptied(t, 100000, x.window, x.smooth)
		lefts(t, "P12.2: "+x.say, p, x.d, x.left)
		holds(t, "P12.2: "+x.say, p, x.left, x.rest)
	}
}

// Where LEFT would come to BURST or above, it is BURST, and REST is 0.
func TestFillsBesideBurst(t *testing.T) {
	for _, x := range []struct {
		say        string
		start, now int64
		left, rest int64
	}{
		{"far below", 0, 10, 3, 0},
		{"one below", 0, 39997, 11999, 20000},
		{"one below, with the greatest rest", 0, 39999, 11999, 140000},
		{"to it, with no rest", 0, 40000, 12000, 0},
		{"to it, with a rest", 11999, 4, 12000, 0},
		{"above it", 11999, 7, 12000, 0},
		{"above it, with a rest", 11999, 8, 12000, 0},
		{"from -BURST, one below", -12000, 79999, 11999, 140000},
		{"from -BURST, to it", -12000, 80000, 12000, 0},
		{"full, and goes on", 12000, 1, 12000, 0},
		{"full, and goes on for long", 12000, 1000000007, 12000, 0},
		{"from below 0 to just below 0", -3, 9, -1, 140000},
		{"from below 0 to 0", -3, 10, 0, 0},
		{"from below 0 to above", -3, 17, 2, 20000},
	} {
		p := spent(t, x.start)
		lefts(t, "P12.2: "+x.say, p, x.now, x.left)
		holds(t, "P12.2: "+x.say, p, x.left, x.rest)
	}
}

// What flows in may be greater than any int64, and than any uint64: the bucket is full then, whatever its low bits say.
func TestFillsByMoreThanAWord(t *testing.T) {
	for _, x := range []struct {
		say               string
		window, smooth, d int64
	}{
		{"0 in its low 64 bits", 1 << 40, api.MaxSpan, api.MaxTime},
		{"0 in its low 64 bits, in the least span", 1 << 40, 1, api.MaxTime},
		{"just above any int64", 1 << 40, api.MaxSpan, 1677722},
		{"just above any uint64", 1 << 40, api.MaxSpan, 3355444},
		{"a second word just below SPAN", 1 << 40, 1, 13421772},
		{"a second word that is SPAN", 1 << 40, 1, 13421773},
		{"a second word just above SPAN", 1 << 40, 1, 16777217},
		{"below 0 as an int64", 1 << 40, 1, 2000000},
		{"small in its low 64 bits", 922337203686, api.MaxSpan, 4000000},
		{"just below any uint64", 1 << 40, api.MaxSpan, 3355443},
		{"one less, in the least span", 1<<40 - 1, 1, api.MaxTime - 1},
	} {
		for _, burst := range []int64{2400, 12000, api.MaxWindow} {
			p := emptied(t, burst, x.window, x.smooth)
			p.Spend(0, burst)
			lefts(t, "P12.2: "+x.say, p, x.d, burst)
			holds(t, "P12.2: "+x.say, p, burst, 0)
		}
	}
}

// Here d x RISE is just below 2^64, or twice that, and with REST above it: what is carried counts.
func TestFillsByARestBeyondAWord(t *testing.T) {
	const window = 1<<30 + 1
	for _, d := range []int64{(1<<64 - 1) / (5 * window), (1<<65 - 1) / (5 * window)} {
		p := emptied(t, api.MaxWindow, window, api.MaxSpan)
		p.Spend(0, api.MaxWindow)
		lefts(t, "P12.2: a great rest", p, 51, -api.MaxWindow)
		holds(t, "P12.2: a great rest", p, -api.MaxWindow, 51*5*window)
		lefts(t, "P12.2: a great rest, and a great inflow", p, 51+d, api.MaxWindow)
		holds(t, "P12.2: a great rest, and a great inflow", p, api.MaxWindow, 0)
	}
}

// REST is kept from look to look: no part of a byte is lost by asking.
func TestRestIsKept(t *testing.T) {
	p := spent(t, 0)
	for i := range int64(10) {
		holds(t, "P12.2: from look to look", p, 3*i/10, 60000*i%200000)
		lefts(t, "P12.2: from look to look", p, i+1, 3*(i+1)/10)
	}
	p = spent(t, 0)
	for i := range int64(10) {
		whens(t, "P12.2: from When to When", p, i, 3, 10)
	}
	p = spent(t, 10)
	for i := range int64(10) {
		p.Spend(i, 1)
	}
	lefts(t, "P12.2: from Spend to Spend", p, 10, 3)
}

// A full bucket has no rest: what flowed over is gone, and the next byte takes as long as the first.
func TestAFullBucketHasNoRest(t *testing.T) {
	p := spent(t, 11999)
	lefts(t, "P12.2: full", p, 6, 12000)
	p.Spend(6, 1)
	whens(t, "P12.2: REST was 0", p, 6, 12000, 10)
	lefts(t, "P12.2: REST was 0", p, 9, 11999)
	lefts(t, "P12.2: REST was 0", p, 10, 12000)
}

// What was full for long isn't more than full.
func TestAFullBucketStaysFull(t *testing.T) {
	p := spent(t, 12000)
	for _, now := range []int64{1, 5, 100, 1000000, api.MaxTime} {
		lefts(t, "P12.2: full", p, now, 12000)
	}
	p.Spend(api.MaxTime, 12000)
	holds(t, "P12.5: full once", p, 0, 0)
}

// Set takes its window into 0 to 2^40.
func TestSetTakesWindows(t *testing.T) {
	for _, x := range []struct{ window, left, rest int64 }{
		{math.MinInt64, 0, 0}, {-1 << 40, 0, 0}, {-1, 0, 0}, {0, 0, 0}, {1, 0, 5 * 1000}, {1 << 20, 0, 5 * 1000 << 20},
		{1<<40 - 1, 19999, 1<<38 - 5000}, {1 << 40, 20000, 0}, {1<<40 + 1, 20000, 0}, {1 << 41, 20000, 0}, {api.Never, 20000, 0}, {math.MaxInt64, 20000, 0},
	} {
		p := emptied(t, api.MaxWindow, x.window, api.MaxSpan)
		lefts(t, "P12.3: a window", p, 1000, x.left)
		holds(t, "P12.3: a window", p, x.left, x.rest)
	}
}

// Set takes its smooth into 1 to MaxSpan.
func TestSetTakesSmooths(t *testing.T) {
	for _, x := range []struct{ smooth, left, rest int64 }{
		{math.MinInt64, 1250, 0}, {-api.MaxSpan, 1250, 0}, {-1, 1250, 0}, {0, 1250, 0}, {1, 1250, 0}, {2, 625, 0}, {3, 416, 8}, {10000, 0, 5000},
		{api.MaxSpan - 1, 0, 5000}, {api.MaxSpan, 0, 5000}, {api.MaxSpan + 1, 0, 5000}, {math.MaxInt64, 0, 5000},
	} {
		p := emptied(t, 12000, 1, x.smooth)
		lefts(t, "P12.3: a smooth", p, 1000, x.left)
		holds(t, "P12.3: a smooth", p, x.left, x.rest)
	}
	for _, x := range []struct{ smooth, want int64 }{
		{api.MaxSpan - 1, 54975581388}, {api.MaxSpan, 54975581389}, {api.MaxSpan + 1, 54975581389}, {math.MaxInt64, 54975581389},
	} {
		p := emptied(t, 12000, 1, x.smooth)
		whens(t, "P12.3: a great smooth", p, 0, 1, x.want)
	}
}

// A rate that is set anew holds from then on, and the old one till then; REST is 0, though the rate be the same.
func TestSetAnew(t *testing.T) {
	p := spent(t, 0)
	p.Set(1009, 4, 5)
	holds(t, "P12.3: it fills by the old rate, and REST is 0", p, 302, 0)
	lefts(t, "P12.3: a byte a microsecond", p, 1100, 393)
	p.Set(1200, 12000, 50000)
	holds(t, "P12.3: it fills", p, 493, 0)
	lefts(t, "P12.3: three in ten", p, 1209, 495)
	holds(t, "P12.3: three in ten", p, 495, 140000)
	p.Set(1209, 12000, 50000)
	holds(t, "P12.3: the same rate, and REST is 0", p, 495, 0)
	whens(t, "P12.3: the same rate, and REST is 0", p, 1209, 496, 1213)
	p.Set(1219, 0, 50000)
	lefts(t, "P12.3: no rate", p, 100000, 498)
	p.Set(200000, 4, 5)
	holds(t, "P12.3: nothing flowed in meanwhile", p, 498, 0)
	lefts(t, "P12.3: a byte a microsecond", p, 200002, 500)
}

// A Set at a time that has passed holds from the clock on.
func TestSetAtATimeThatHasPassed(t *testing.T) {
	p := spent(t, 0)
	lefts(t, "P12.2: the old rate", p, 1000, 300)
	p.Set(500, 4, 5)
	holds(t, "P12.3: now has passed", p, 300, 0)
	lefts(t, "P12.3: from the clock on", p, 1001, 301)
}

// Set leaves LEFT as it is, below 0 and full.
func TestSetLeavesLeft(t *testing.T) {
	for _, left := range []int64{-12000, -11999, -1, 0, 1, 11999, 12000} {
		p := spent(t, left)
		p.Set(0, 1<<40, 1)
		holds(t, "P12.3: LEFT stays", p, left, 0)
		lefts(t, "P12.3: and fills by the new rate", p, 1, 12000)
	}
}

// The first Set fills by the rate that New gave: none.
func TestFirstSet(t *testing.T) {
	p := made(t, 12000)
	p.Spend(0, 12000)
	p.Set(1000, 4, 5)
	holds(t, "P12.3: nothing flowed in ahead of it", p, 0, 0)
	lefts(t, "P12.3: from then on", p, 1007, 7)
}
