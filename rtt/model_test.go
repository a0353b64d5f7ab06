package rtt

import (
	"math"
	"math/big"
	"math/rand/v2"
	"testing"

	"portage/api"
)

// A step is what was told to one.
type step struct {
	restart            bool
	now, latest, delay int64
}

// cut takes a number into 0 to MaxTime.
func cut(x int64) int64 {
	if x < 0 {
		return 0
	}
	if x > 1<<50 {
		return 1 << 50
	}
	return x
}

// mix is (a x + b y) / d, reckoned as whole numbers of any size.
func mix(a, x, b, y, d int64) int64 {
	n := new(big.Int).Mul(big.NewInt(a), big.NewInt(x))
	n.Add(n, new(big.Int).Mul(big.NewInt(b), big.NewInt(y)))
	return n.Quo(n, big.NewInt(d)).Int64()
}

// told is a second reading of the chapter's words: the view by all that was told from the beginning on, the least found by going back.
func told(steps []step) api.RTT {
	var v api.RTT
	var clock int64
	for i, s := range steps {
		if s.restart {
			continue
		}
		clock = max(clock, cut(s.now))
		latest, delay := cut(s.latest), cut(s.delay)
		v.Latest = latest
		if !v.Has {
			v = api.RTT{Has: true, Latest: latest, Least: latest, Smooth: latest, Var: latest / 2, First: clock}
			continue
		}
		v.Least = leastOf(steps[:i+1])
		taken := latest
		if latest >= v.Least+delay {
			taken = latest - delay
		}
		off := v.Smooth - taken
		if off < 0 {
			off = -off
		}
		v.Var, v.Smooth = mix(3, v.Var, 1, off, 4), mix(7, v.Smooth, 1, taken, 8)
	}
	return v
}

// leastOf is the least latest since the first sample, or since the first one behind the last Restart that a sample followed.
func leastOf(steps []step) int64 {
	least, any := int64(0), false
	for i := len(steps) - 1; i >= 0; i-- {
		if steps[i].restart {
			if any {
				return least
			}
			continue
		}
		if x := cut(steps[i].latest); !any || x < least {
			least, any = x, true
		}
	}
	return least
}

// timers is Base and LossDelay by the chapter's words.
func timers(v api.RTT, initial, granularity int64) (int64, int64) {
	smooth, vary, latest := initial, initial/2, int64(0)
	if v.Has {
		smooth, vary, latest = v.Smooth, v.Var, v.Latest
	}
	return smooth + max(mix(4, vary, 0, 0, 1), granularity), max(mix(9, max(smooth, latest), 0, 0, 8), granularity)
}

// someSpan gives spans of all sizes, most of them around one size.
func someSpan(r *rand.Rand, size int64) int64 {
	switch r.IntN(12) {
	case 0:
		return int64(r.Uint64())
	case 1:
		return int64(r.Uint64() >> (13 + r.IntN(51)))
	case 2:
		return []int64{math.MinInt64, -1, 0, 1, 1<<50 - 1, 1 << 50, 1<<50 + 1, math.MaxInt64}[r.IntN(8)]
	}
	return r.Int64N(size) + 1
}

// someStep is one that often lies near what is held already.
func someStep(r *rand.Rand, v api.RTT, size int64) step {
	if r.IntN(6) == 0 {
		return step{restart: true}
	}
	s := step{now: someSpan(r, size), latest: someSpan(r, size), delay: someSpan(r, size)}
	switch r.IntN(4) {
	case 0:
		s.delay = 0
	case 1:
		s.delay = r.Int64N(size)
		s.latest = v.Least + s.delay + int64(r.IntN(3)) - 1
	}
	return s
}

func TestAgainstASecondReading(t *testing.T) {
	r := rand.New(rand.NewPCG(9, 1))
	for range 3000 {
		initial, granularity := r.Int64N(60000000)+1, r.Int64N(1000000)+1
		size := int64(1) << (1 + r.IntN(50))
		e := made(t, initial, granularity)
		var steps []step
		for range 1 + r.IntN(40) {
			s := someStep(r, e.View(), size)
			steps = append(steps, s)
			if s.restart {
				e.Restart()
			} else {
				e.Sample(s.now, s.latest, s.delay)
			}
			want := told(steps)
			base, loss := timers(want, initial, granularity)
			holds(t, "P9.2: against a second reading", e, want, base, loss)
		}
		if t.Failed() {
			t.Fatalf("behind New(%d, %d) and %+v", initial, granularity, steps)
		}
	}
}

// What follows: Least is at most every Latest since the first sample, or since the first one behind the last Restart.
func TestLeastIsAtMostEveryLatest(t *testing.T) {
	r := rand.New(rand.NewPCG(9, 2))
	for range 300 {
		e := made(t, 333000, 1000)
		var since []int64
		fresh := false
		for range 100 {
			s := someStep(r, e.View(), 1<<20)
			if s.restart {
				e.Restart()
				fresh = true
				continue
			}
			e.Sample(s.now, s.latest, s.delay)
			v := e.View()
			if fresh {
				since, fresh = nil, false
			}
			since = append(since, v.Latest)
			for _, x := range since {
				if v.Least > x {
					t.Fatalf("What follows: Least %d is above a Latest %d of %v", v.Least, x, since)
				}
			}
		}
	}
}

// What follows: samples without a delay that all lie from a to b leave Smooth from a to b.
func TestSmoothStaysBetween(t *testing.T) {
	r := rand.New(rand.NewPCG(9, 3))
	for range 1000 {
		a := r.Int64N(1 << (1 + r.IntN(50)))
		width := r.Int64N(1<<(r.IntN(50)+1)) + 1
		b := min(a+width, api.MaxTime)
		e := made(t, 333000, 1000)
		for range 60 {
			x := a + r.Int64N(b-a+1)
			switch r.IntN(4) {
			case 0:
				x = a
			case 1:
				x = b
			}
			e.Sample(0, x, 0)
			if v := e.View(); v.Smooth < a || v.Smooth > b {
				t.Fatalf("What follows: Smooth %d behind samples from %d to %d", v.Smooth, a, b)
			}
		}
	}
}

// What follows: behind 400 samples of one x, without a delay, whatever came ahead, Smooth is x - 7 to x, and LossDelay hangs on x alone.
func TestLikeSamplesSettle(t *testing.T) {
	r := rand.New(rand.NewPCG(9, 4))
	edges := []int64{0, 1, 6, 7, 8, 9, 100000, api.MaxTime - 1, api.MaxTime}
	for i := range 400 {
		granularity := r.Int64N(1000000) + 1
		x := edges[i%len(edges)]
		if i%3 == 0 {
			x = r.Int64N(1 << (1 + r.IntN(50)))
		}
		e := made(t, 333000, granularity)
		if i%7 > 0 {
			e.Sample(0, []int64{0, api.MaxTime, x}[i%3], 0)
		}
		for range r.IntN(20) {
			s := someStep(r, e.View(), 1<<40)
			e.Sample(s.now, s.latest, s.delay)
		}
		for range 400 {
			e.Sample(0, x, 0)
		}
		if v := e.View(); v.Smooth < x-7 || v.Smooth > x {
			t.Fatalf("What follows: Smooth %d behind 400 samples of %d", v.Smooth, x)
		}
		if got, want := e.LossDelay(), max(9*x/8, granularity); got != want {
			t.Fatalf("What follows: LossDelay %d behind 400 samples of %d, want %d", got, x, want)
		}
	}
}
