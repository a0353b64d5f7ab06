package cubic

import (
	"math"
	"math/rand/v2"
	"slices"
	"testing"

	"portage/api"
)

// someTime is one near the clock, Began, or a place of the curve, at an edge, or anything.
func someTime(r *rand.Rand, m *reading) int64 {
	switch r.IntN(24) {
	case 0:
		return []int64{math.MinInt64, -1, 0, 1, api.MaxTime - 1, api.MaxTime, api.MaxTime + 1, math.MaxInt64}[r.IntN(8)]
	case 1:
		return int64(r.Uint64() >> r.IntN(64))
	case 2, 3, 4, 5:
		return m.clock + int64(r.IntN(9)) - 4
	case 6, 7, 8, 9:
		return m.w.Began + int64(r.IntN(3)) - 1
	}
	return r.Int64N(m.clock+100) + 1
}

// laterTime is one that the clock goes on to: by little, by seconds, or to a place of the curve.
func laterTime(r *rand.Rand, m *reading) int64 {
	switch r.IntN(8) {
	case 0:
		return m.clock
	case 1:
		return m.epoch + m.k + int64(r.IntN(41)) - 20
	case 2:
		return m.epoch + m.k + int64(r.IntN(5)-2)*second/2 - int64(r.IntN(2))
	case 3:
		return m.clock + r.Int64N(second)
	case 4:
		return m.clock + r.Int64N(5*second)
	}
	return m.clock + r.Int64N(30000)
}

// someSize is one of a datagram, of a window, at an edge, beside what the window is about to pass, or anything.
func someSize(r *rand.Rand, m *reading) int64 {
	peak := int64(near(m.peak))
	switch r.IntN(16) {
	case 0:
		return []int64{math.MinInt64, -1, 0, 1, 65534, 65535, 65536, math.MaxInt64}[r.IntN(8)]
	case 1:
		return int64(r.Uint64() >> r.IntN(64))
	case 2, 3, 4:
		return m.w.Size + int64(r.IntN(3)) - 1
	case 5:
		return m.w.Flight + int64(r.IntN(3)) - 1
	case 6:
		return m.w.Size - m.w.Flight + int64(r.IntN(3)) - 1
	case 7:
		return m.w.Threshold - m.w.Size + int64(r.IntN(3)) - 1
	case 8, 9:
		return peak - m.w.Size + int64(r.IntN(3)) - 1
	case 10:
		return r.Int64N(4)
	}
	return r.Int64N(m.mtu) + 1
}

func someStep(r *rand.Rand, m *reading) step {
	calls := "SSSSAAAAAAAAAAAAAAAAAAALDEEC"
	s := step{call: calls[r.IntN(len(calls))], size: someSize(r, m), limited: r.IntN(8) == 0}
	s.now, s.sent = someTime(r, m), someTime(r, m)
	if r.IntN(6) > 0 {
		// Times that rise, so that all of them don't soon lie at the end.
		s.now = laterTime(r, m)
	}
	if r.IntN(3) > 0 {
		s.sent = max(s.now, m.clock)
	}
	return s
}

// someMTU is one at an edge or between.
func someMTU(r *rand.Rand) int {
	if r.IntN(2) == 0 {
		return []int{1200, 1201, 1471, 1472, 1473, 7359, 7360, 7361, 8999, 9000}[r.IntN(10)]
	}
	return 1200 + r.IntN(7801)
}

// within fails if what one keeps between its calls is another, to the last bit: so the rounding of each operation shows at once, though Size has whole bytes alone.
func within(t *testing.T, c *Ctl, m *reading) {
	t.Helper()
	if c.peak != near(m.peak) || c.part != near(m.part) || c.curve.epoch != m.epoch {
		t.Errorf("P11.3: PEAK %v, PART %v, EPOCH %d, want %v, %v, %d", c.peak, c.part, c.curve.epoch, m.peak, m.part, m.epoch)
	}
	if m.epoch >= 0 && (c.curve.origin != near(m.origin) || c.curve.wait != m.k || c.curve.plain != near(m.est)) {
		t.Errorf("P11.2: ORIGIN %v, K %d, EST %v, want %v, %d, %v", c.curve.origin, c.curve.wait, c.curve.plain, m.origin, m.k, m.est)
	}
}

func TestAgainstASecondReading(t *testing.T) {
	r := rand.New(rand.NewPCG(11, 1))
	var by [4]int
	for range 2000 {
		mtu := someMTU(r)
		c, m := made(t, mtu), newReading(int64(mtu))
		var steps []step
		for range 1 + r.IntN(120) {
			s := someStep(r, m)
			steps = append(steps, s)
			if got, want := play(c, s), m.take(s); got != want {
				t.Errorf("P11.3: against a second reading: %t, want %t", got, want)
			}
			views(t, "P11.2: against a second reading", c, m.w)
			within(t, c, m)
			size := someSize(r, m)
			may(t, "P11.1: against a second reading", c, size, m.w.Size-m.w.Flight >= into(size, 65535))
			if t.Failed() {
				t.Fatalf("behind New(%d) and %+v", mtu, steps)
			}
		}
		for i, n := range m.by {
			by[i] += n
		}
	}
	if slices.Min(by[:]) < 100 {
		t.Errorf("TARGET was the curve, EST, Size, 1.5 x Size %d times: too seldom", by)
	}
}

// K against every span below it that is near, and some that are not: none of them is enough.
func TestTheWaitIsTheLeast(t *testing.T) {
	r := rand.New(rand.NewPCG(11, 7))
	for range 300 {
		m := newReading(int64(someMTU(r)))
		lack := r.Float64() * []float64{1e-12, 0.01, 1, 100, 30000, 1e7, 1e12}[r.IntN(7)]
		k := reach(lack, m.mtu)
		if near(m.cube(k)) < lack {
			t.Fatalf("P11.2: CUBE(%d) is below %v, mtu %d", k, lack, m.mtu)
		}
		for i := range int64(60) {
			if d := k - 1 - i*i*i; d >= 0 && near(m.cube(d)) >= lack {
				t.Fatalf("P11.2: K of %v is %d, and %d is enough, mtu %d", lack, k, d, m.mtu)
			}
		}
	}
}

// Two that are told the same in turns with others answer the same (R4).
func TestAlikeAnswerAlike(t *testing.T) {
	r := rand.New(rand.NewPCG(11, 2))
	for range 200 {
		mtu := someMTU(r)
		a, b, other, m := made(t, mtu), made(t, mtu), made(t, someMTU(r)), newReading(int64(mtu))
		for range 80 {
			s := someStep(r, m)
			m.take(s)
			first := play(a, s)
			play(other, someStep(r, m))
			other.May(someSize(r, m))
			if second := play(b, s); first != second || a.View() != b.View() {
				t.Fatalf("R4: %t and %+v, %t and %+v", first, a.View(), second, b.View())
			}
		}
	}
}

// What follows: Size is never below 2 mtu, and falls by Event and Collapse alone; Flight is never below 0.
func TestSizeFallsByACutAlone(t *testing.T) {
	r := rand.New(rand.NewPCG(11, 3))
	for range 500 {
		mtu := someMTU(r)
		c, m := made(t, mtu), newReading(int64(mtu))
		for range 80 {
			s := someStep(r, m)
			m.take(s)
			ahead := c.View()
			cut := play(c, s) || s.call == 'C'
			v := c.View()
			if v.Size < 2*int64(mtu) || v.Flight < 0 {
				t.Fatalf("What follows: behind %+v of %d: %+v", s, mtu, v)
			}
			if v.Size < ahead.Size && !cut {
				t.Fatalf("What follows: %+v took Size from %d to %d", s, ahead.Size, v.Size)
			}
		}
	}
}

// What follows: one acknowledgement raises Size by size at most in slow start, and by no more than half of size, and one, behind that.
func TestHowFarOneRaises(t *testing.T) {
	r := rand.New(rand.NewPCG(11, 4))
	halves := 0
	for range 500 {
		mtu := someMTU(r)
		c, m := made(t, mtu), newReading(int64(mtu))
		for range 80 {
			s := someStep(r, m)
			m.take(s)
			ahead := c.View()
			play(c, s)
			more, size := c.View().Size-ahead.Size, into(s.size, 65535)
			if s.call != 'A' {
				continue
			}
			if ahead.Size < ahead.Threshold {
				if more != 0 && more != size {
					t.Fatalf("What follows: in slow start %+v raises by %d", s, more)
				}
				continue
			}
			size = min(size, ahead.Size)
			if 2*(more-1) > size {
				t.Fatalf("What follows: behind slow start %+v raises by %d", s, more)
			}
			if size > 1 && more >= size/2 {
				halves++
			}
		}
	}
	if halves < 100 {
		t.Errorf("What follows: only %d came to the half", halves)
	}
}

// What follows: it is cut once a recovery period, as layer 10's.
func TestOneCutAPeriod(t *testing.T) {
	r := rand.New(rand.NewPCG(11, 5))
	for range 1000 {
		mtu := someMTU(r)
		c := made(t, mtu)
		var clock, last int64 = 0, -1 // when the last cut was made, -1 behind a Collapse
		for range 80 {
			clock += int64(r.IntN(4))
			sent := max(clock-int64(r.IntN(12)), 0)
			switch r.IntN(12) {
			case 0:
				c.Collapse()
				last = -1
			case 1, 2, 3:
				ahead := c.View()
				got := c.Event(clock, sent)
				if got != (last < 0 || sent > last) {
					t.Fatalf("What follows: Event(%d, %d) = %t, the last cut being at %d", clock, sent, got, last)
				}
				if !got && c.View() != ahead {
					t.Fatalf("What follows: Event(%d, %d) is false, and %+v became %+v", clock, sent, ahead, c.View())
				}
				if got {
					last = clock
				}
			default:
				c.Sent(1200)
				c.Acked(clock, sent, int64(r.IntN(9000)), false)
			}
		}
	}
}

// What follows: only differences of times count. The same steps, all times later by a span, leave the same windows, Began later by it.
func TestLaterByASpan(t *testing.T) {
	r := rand.New(rand.NewPCG(11, 6))
	for range 1000 {
		mtu := someMTU(r)
		span := []int64{1, 7, second, r.Int64N(3600 * second), api.MaxTime / 2, api.MaxTime - 1000*second}[r.IntN(6)]
		a, b, m := made(t, mtu), made(t, mtu), newReading(int64(mtu))
		for range 80 {
			s := someStep(r, m)
			s.now, s.sent = into(s.now, 1000*second), into(s.sent, 1000*second)
			m.take(s)
			first := play(a, s)
			s.now, s.sent = s.now+span, s.sent+span
			got := play(b, s)
			want := a.View()
			if want.Began >= 0 {
				want.Began += span
			}
			if got != first {
				t.Fatalf("What follows: %+v, later by %d: %t, want %t", s, span, got, first)
			}
			views(t, "What follows: later by a span", b, want)
			if t.Failed() {
				t.Fatalf("%+v, later by %d", s, span)
			}
		}
	}
}
