package pace

import (
	"math"
	"testing"

	"portage/api"
)

// past is a time that counts as the clock, whatever that is.
const past = math.MinInt64

// made is a new one.
func made(t *testing.T, burst int64) *Pacer {
	t.Helper()
	p, err := New(burst)
	if p == nil || err != api.OK {
		t.Fatalf("P12.1: New(%d) = %v, %d, want one and OK", burst, p, err)
	}
	return p
}

// spent is one of the rate of the chapter's examples, three bytes in ten microseconds, with just so much left, at 0.
func spent(t *testing.T, left int64) *Pacer {
	t.Helper()
	p := made(t, 12000)
	p.Set(0, 12000, 50000)
	p.Spend(0, min(12000-left, 12000))
	p.Spend(0, min(-left, 12000))
	lefts(t, "P12.5: spent", p, 0, left)
	return p
}

// lefts fails if Left answers otherwise.
func lefts(t *testing.T, say string, p *Pacer, now, want int64) {
	t.Helper()
	if got := p.Left(now); got != want {
		t.Errorf("%s: Left(%d) = %d, want %d", say, now, got, want)
	}
}

// whens fails if When answers otherwise.
func whens(t *testing.T, say string, p *Pacer, now, size, want int64) {
	t.Helper()
	if got := p.When(now, size); got != want {
		t.Errorf("%s: When(%d, %d) = %d, want %d", say, now, size, got, want)
	}
}

// holds fails if LEFT or REST are others, at the clock.
func holds(t *testing.T, say string, p *Pacer, left, rest int64) {
	t.Helper()
	if got := p.Left(past); got != left || p.rest != rest {
		t.Errorf("%s: LEFT, REST = %d, %d, want %d, %d", say, got, p.rest, left, rest)
	}
}

func TestExamples(t *testing.T) {
	p := made(t, 12000)
	p.Set(0, 12000, 50000)
	whens(t, "P12.4: full", p, 0, 1200, 0)
	holds(t, "P12.1: full", p, 12000, 0)
	p.Spend(0, 12000)
	holds(t, "P12.5: all is spent", p, 0, 0)
	whens(t, "P12.4: empty", p, 0, 1200, 4000)
	holds(t, "P12.4: asked", p, 0, 0)
	lefts(t, "P12.2: 1001 microseconds", p, 1001, 300)
	holds(t, "P12.2: 1001 microseconds", p, 300, 60000)
	whens(t, "P12.4: with a rest", p, 1001, 1200, 4000)
	holds(t, "P12.4: with a rest", p, 300, 60000)
	lefts(t, "P12.2: 4000 microseconds", p, 4000, 1200)
	holds(t, "P12.2: 4000 microseconds", p, 1200, 0)
	p.Spend(3000, 20000)
	holds(t, "P12.5: more than BURST, at a time that has passed", p, -10800, 0)
	p.Spend(4000, 12000)
	holds(t, "P12.5: down to -BURST", p, -12000, 0)
	p.Set(4000, 0, 1)
	whens(t, "P12.4: nothing flows in", p, 4000, 1, api.Never)
	holds(t, "P12.3: nothing flows in", p, -12000, 0)
}

func TestNewTakes(t *testing.T) {
	for _, burst := range []int64{2400, 2401, 12000, 65536, api.MaxWindow - 1, api.MaxWindow} {
		p := made(t, burst)
		holds(t, "P12.1: LEFT is BURST", p, burst, 0)
		whens(t, "P12.1: LEFT is BURST", p, 0, burst, 0)
		whens(t, "P12.1: LEFT is BURST", p, 7, burst, 7)
		p.Spend(10, 1)
		whens(t, "P12.1: RISE is 0", p, 20, burst-1, 20)
		whens(t, "P12.1: RISE is 0", p, 20, burst, api.Never)
		lefts(t, "P12.1: RISE is 0", p, api.MaxTime, burst-1)
	}
}

func TestNewRefuses(t *testing.T) {
	for _, burst := range []int64{math.MinInt64, -12000, -2400, -1, 0, 1, 1200, 2399, api.MaxWindow + 1, 1 << 32, api.MaxNumber, math.MaxInt64} {
		if p, err := New(burst); p != nil || err != api.ErrArg {
			t.Errorf("Errors: New(%d) = %v, %d, want nil and ErrArg", burst, p, err)
		}
	}
}

// sizes are sizes as they are handed in to one of 12000, and as what they count.
var sizes = []struct{ size, as int64 }{
	{math.MinInt64, 0}, {-12001, 0}, {-1, 0}, {0, 0}, {1, 1}, {1200, 1200}, {11999, 11999}, {12000, 12000}, {12001, 12000},
	{24000, 12000}, {api.MaxWindow, 12000}, {math.MaxInt64, 12000},
}

func TestSpendTakesSizes(t *testing.T) {
	for _, x := range sizes {
		p := spent(t, 12000)
		p.Spend(0, x.size)
		holds(t, "P12.5: a size", p, 12000-x.as, 0)
		p.Spend(0, x.size)
		holds(t, "P12.5: a size, twice", p, 12000-2*x.as, 0)
	}
}

func TestWhenTakesSizes(t *testing.T) {
	for _, x := range sizes {
		p := spent(t, 0)
		want := (x.as*10 + 2) / 3
		whens(t, "P12.4: a size", p, 0, x.size, want)
		p = spent(t, -3)
		whens(t, "P12.4: a size, with less than nothing", p, 0, x.size, want+10)
		p = spent(t, 12000)
		whens(t, "P12.4: a size, with all", p, 5, x.size, 5)
	}
}

// The bounds of a size are those of the Pacer, not of all.
func TestSizesByBurst(t *testing.T) {
	for _, burst := range []int64{2400, 2401, api.MaxWindow} {
		p := made(t, burst)
		p.Spend(0, burst+1)
		holds(t, "P12.5: above BURST", p, 0, 0)
		p.Set(0, 4, 5)
		whens(t, "P12.4: above BURST", p, 0, burst+1, burst)
		p.Spend(0, math.MaxInt64)
		holds(t, "P12.5: above BURST, again", p, -burst, 0)
		whens(t, "P12.4: above BURST, from -BURST on", p, 0, math.MaxInt64, 2*burst)
		p.Spend(0, 1)
		holds(t, "P12.5: not below -BURST", p, -burst, 0)
	}
}

func TestSpendBesideTheLeast(t *testing.T) {
	for _, x := range []struct{ left, size, want int64 }{
		{0, 11999, -11999}, {0, 12000, -12000}, {1, 12000, -11999}, {-1, 11998, -11999}, {-1, 11999, -12000}, {-1, 12000, -12000},
		{-11999, 0, -11999}, {-11999, 1, -12000}, {-11999, 2, -12000}, {-12000, 0, -12000}, {-12000, 1, -12000}, {-12000, 12000, -12000},
	} {
		p := spent(t, x.left)
		p.Spend(0, x.size)
		holds(t, "P12.5: beside -BURST", p, x.want, 0)
		lefts(t, "P12.2: behind it", p, 10, x.want+3)
	}
}

// What has flowed in beside whole bytes is there still behind a Spend, even behind one that is cut off at -BURST.
func TestSpendKeepsTheRest(t *testing.T) {
	for _, x := range []struct{ left, size, want int64 }{{0, 100, -100}, {0, 0, 0}, {-11000, 1000, -12000}, {-11500, 12000, -12000}, {-12000, 5, -12000}} {
		p := spent(t, x.left)
		p.Spend(9, 0)
		holds(t, "P12.2: nine tenths", p, x.left+2, 140000)
		p.Spend(9, x.size+2)
		holds(t, "P12.5: the rest stays", p, x.want, 140000)
		lefts(t, "P12.5: the rest stays", p, 10, x.want+1)
	}
}

// It may be spent whether When has come or not.
func TestSpendAheadOfWhen(t *testing.T) {
	p := spent(t, 0)
	whens(t, "P12.4: later", p, 0, 1200, 4000)
	p.Spend(0, 1200)
	holds(t, "P12.5: ahead of it", p, -1200, 0)
	whens(t, "P12.4: later still", p, 0, 1200, 8000)
	p.Spend(4000, 1200)
	holds(t, "P12.5: ahead of it, again", p, -1200, 0)
}

// Each call but New moves the clock, and a time below it counts as the clock, one above MaxTime as MaxTime.
func TestCallsMoveTheClock(t *testing.T) {
	calls := []struct {
		say  string
		make func(p *Pacer, now int64)
	}{
		{"Set", func(p *Pacer, now int64) { p.Set(now, 12000, 50000) }},
		{"When", func(p *Pacer, now int64) { p.When(now, 1200) }},
		{"Spend", func(p *Pacer, now int64) { p.Spend(now, 0) }},
		{"Left", func(p *Pacer, now int64) { p.Left(now) }},
	}
	for _, call := range calls {
		for _, x := range []struct{ now, clock int64 }{
			{math.MinInt64, 0}, {-1, 0}, {0, 0}, {10, 10}, {1000, 1000}, {api.MaxTime - 1, api.MaxTime - 1},
			{api.MaxTime, api.MaxTime}, {api.MaxTime + 1, api.MaxTime}, {api.Never, api.MaxTime}, {math.MaxInt64, api.MaxTime},
		} {
			p := made(t, 12000)
			p.Set(0, 12000, 50000)
			p.Spend(0, 12000)
			call.make(p, x.now)
			left := min(3*x.clock/10, 12000)
			for _, now := range []int64{x.now, math.MinInt64, -1, 0, x.clock - 1, x.clock} {
				whens(t, "R5: the clock, moved by "+call.say, p, now, 0, x.clock)
				lefts(t, "R5: nothing flows in again, behind "+call.say, p, now, left)
			}
			if x.clock < api.MaxTime {
				whens(t, "R5: the clock goes on behind "+call.say, p, x.clock+1, 0, x.clock+1)
			}
		}
	}
}

// The last time is MaxTime: what comes later is the same moment.
func TestNothingFlowsBehindMaxTime(t *testing.T) {
	p := made(t, 12000)
	p.Set(api.MaxTime-10, 12000, 50000)
	p.Spend(api.MaxTime-10, 12000)
	lefts(t, "P12.2: up to MaxTime", p, api.MaxTime+10, 3)
	lefts(t, "R5: behind MaxTime", p, math.MaxInt64, 3)
	whens(t, "P12.4: from MaxTime on", p, math.MaxInt64, 6, api.MaxTime+10)
}

// Two know nothing of one another (R4).
func TestTwoInTurns(t *testing.T) {
	a, b := made(t, 12000), made(t, 2400)
	a.Set(0, 12000, 50000)
	b.Set(5, 4, 5)
	a.Spend(0, 12000)
	b.Spend(7, 100)
	lefts(t, "R4: the first", a, 1001, 300)
	lefts(t, "R4: the second", b, 17, 2310)
	b.Spend(17, 5000)
	whens(t, "R4: the first", a, 1001, 1200, 4000)
	whens(t, "R4: the second", b, 17, 2400, 2507)
	a.Set(2000, 0, 1)
	whens(t, "R4: the first", a, 2000, 1200, api.Never)
	whens(t, "R4: the second", b, 17, 2400, 2507)
	holds(t, "R4: the second", b, -90, 0)
	lefts(t, "R4: the first", a, api.MaxTime, 600)
	lefts(t, "R4: the second", b, 107, 0)
}
