package pace

import (
	"math"
	"testing"

	"portage/api"
)

func TestWhenBesideLeft(t *testing.T) {
	for _, left := range []int64{0, 1, 500, 1199, 11998} {
		p := spent(t, left)
		whens(t, "P12.4: LEFT just above size", p, 0, left-1, 0)
		whens(t, "P12.4: LEFT is size", p, 0, left, 0)
		whens(t, "P12.4: LEFT just below size", p, 0, left+1, 4)
		whens(t, "P12.4: the clock", p, 2, left, 2)
		whens(t, "P12.4: LEFT just below size, with a rest", p, 3, left+1, 4)
		whens(t, "P12.4: it has come", p, 4, left+1, 4)
		whens(t, "P12.4: it came earlier", p, 5, left+1, 5)
		whens(t, "P12.4: the next", p, 5, left+2, 7)
	}
}

func TestWhenIsRoundedUp(t *testing.T) {
	for _, x := range []struct {
		say                  string
		window, smooth, size int64
		want                 int64
	}{
		{"a whole quotient", 12000, 50000, 3, 10},
		{"a whole quotient, greater", 12000, 50000, 1200, 4000},
		{"a third above", 12000, 50000, 1, 4},
		{"two thirds above", 12000, 50000, 2, 7},
		{"less than a microsecond", 1 << 40, 1, 12000, 1},
		{"less than a microsecond, by one", 1 << 40, api.MaxSpan, 19, 1},
		{"just a microsecond", 1 << 40, api.MaxSpan, 20, 1},
		{"more than a microsecond, by one", 1 << 40, api.MaxSpan, 21, 2},
		{"a byte a microsecond", 4, 5, 777, 777},
		{"a rate that is no whole one", 1234, 777, 1200, 605},
		{"one in SPAN above", 1, 1, 9, 8},
		{"whole again", 1, 1, 10, 8},
		{"the least rate", 1, api.MaxSpan, 1, 54975581389},
		{"the least rate, whole", 1, api.MaxSpan, 5, 1 << 38},
	} {
		p := emptied(t, 12000, x.window, x.smooth)
		whens(t, "P12.4: "+x.say, p, 0, x.size, x.want)
		whens(t, "P12.4: asked again, "+x.say, p, 0, x.size, x.want)
		lefts(t, "P12.4: asking takes nothing, "+x.say, p, 0, 0)
		if got := p.Left(x.want - 1); got >= x.size {
			t.Errorf("P12.4: %s: Left(%d) = %d, and so much may go ahead of When", x.say, x.want-1, got)
		}
		if got := p.Left(x.want); got < x.size {
			t.Errorf("P12.4: %s: Left(%d) = %d, and so much may not go at When", x.say, x.want, got)
		}
	}
}

// The rest shortens it, by a microsecond or by none.
func TestWhenWithARest(t *testing.T) {
	for _, x := range []struct{ now, size, want int64 }{
		{1, 1, 4}, {2, 1, 4}, {3, 1, 4}, {4, 1, 4}, {4, 2, 7}, {5, 2, 7}, {6, 2, 7}, {7, 3, 10}, {8, 3, 10}, {9, 3, 10},
		{9, 12000, 40000}, {39999, 12000, 40000},
	} {
		p := spent(t, 0)
		whens(t, "P12.4: with a rest", p, x.now, x.size, x.want)
	}
	p := emptied(t, 12000, 3, 1)
	whens(t, "P12.4: 15 in 4", p, 1, 4, 2)
	whens(t, "P12.4: 15 in 4, the rest is enough", p, 1, 7, 2)
	whens(t, "P12.4: 15 in 4, the rest isn't enough", p, 1, 8, 3)
}

// Below 0 even nothing may not go, till what is missing has flowed in.
func TestWhenBelowNothing(t *testing.T) {
	p := spent(t, -12000)
	whens(t, "P12.4: nothing", p, 0, 0, 40000)
	whens(t, "P12.4: below nothing", p, 0, -5, 40000)
	whens(t, "P12.4: a datagram", p, 0, 1200, 44000)
	whens(t, "P12.4: BURST", p, 0, 12000, 80000)
	p = spent(t, -1)
	whens(t, "P12.4: one is missing", p, 0, 0, 4)
}

func TestWhenWithoutARate(t *testing.T) {
	for _, left := range []int64{-12000, -1, 0, 1, 1199, 11999, 12000} {
		for _, window := range []int64{0, -1, math.MinInt64} {
			p := spent(t, left)
			p.Set(0, window, 50000)
			for _, now := range []int64{0, 9, api.MaxTime} {
				for _, size := range []int64{-1, 0, left - 1, left, left + 1, 12000, 12001, math.MaxInt64} {
					want := int64(api.Never)
					if left >= into(size, 0, 12000) {
						want = now
					}
					whens(t, "P12.4: RISE is 0", p, now, size, want)
				}
			}
			lefts(t, "P12.4: RISE is 0", p, api.MaxTime, left)
		}
	}
}

// It may be above MaxTime: then it never comes, but it is told as it is.
func TestWhenBeyondMaxTime(t *testing.T) {
	p := emptied(t, api.MaxWindow, 1, api.MaxSpan)
	p.Spend(0, api.MaxWindow)
	whens(t, "P12.4: the latest from 0 on", p, 0, api.MaxWindow, 115292150460684698)
	whens(t, "P12.4: the latest, later", p, 12345, api.MaxWindow, 115292150460684698)
	whens(t, "P12.4: the latest, at MaxTime", p, math.MaxInt64, api.MaxWindow, 115292150460684698)
	p.Spend(math.MaxInt64, api.MaxWindow)
	p.Set(math.MaxInt64, 1, api.MaxSpan)
	whens(t, "P12.4: the latest of all", p, math.MaxInt64, api.MaxWindow, api.MaxTime+115292150460684698)

	p = made(t, 12000)
	p.Set(api.MaxTime-100, 4, 5)
	p.Spend(api.MaxTime-100, 12000)
	for size, want := range map[int64]int64{99: api.MaxTime - 1, 100: api.MaxTime, 101: api.MaxTime + 1, 12000: api.MaxTime + 11900} {
		whens(t, "P12.4: beside MaxTime", p, api.MaxTime-100, size, want)
	}
	lefts(t, "P12.4: it never comes", p, math.MaxInt64, 100)
	whens(t, "P12.4: it never comes", p, math.MaxInt64, 101, api.MaxTime+1)
}

// When fills, and what it fills by stays.
func TestWhenFills(t *testing.T) {
	p := spent(t, 0)
	whens(t, "P12.4: it fills", p, 1001, 300, 1001)
	holds(t, "P12.4: it fills", p, 300, 60000)
	whens(t, "P12.4: to BURST", p, 50000, 12000, 50000)
	holds(t, "P12.4: to BURST", p, 12000, 0)
}
