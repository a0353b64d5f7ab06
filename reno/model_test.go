package reno

import (
	"math"
	"math/rand/v2"
	"testing"

	"portage/api"
)

// A step is a call that was made, by its name's first letter.
type step struct {
	call            byte
	now, sent, size int64
	limited         bool
}

// into takes x into 0 to most.
func into(x, most int64) int64 {
	if x < 0 {
		return 0
	}
	if x > most {
		return most
	}
	return x
}

// A reading is a second reading of the chapter's words: time and sizes as they are said, the window raised byte by byte.
type reading struct {
	mtu, clock, rest int64
	w                api.Window
}

func newReading(mtu int64) *reading {
	size := int64(14720)
	if 2*mtu > size {
		size = 2 * mtu
	}
	if 10*mtu < size {
		size = 10 * mtu
	}
	return &reading{mtu: mtu, w: api.Window{Size: size, Threshold: 1<<62 - 1, Began: -1}}
}

func (r *reading) take(s step) bool {
	now, sent, size := into(s.now, 1<<50), into(s.sent, 1<<50), into(s.size, 65535)
	if s.call == 'A' || s.call == 'E' {
		if now > r.clock {
			r.clock = now
		}
	}
	old := r.w.Began != -1 && r.w.Began >= sent
	switch s.call {
	case 'S':
		r.w.Flight += size
	case 'L', 'D':
		r.less(size)
	case 'A':
		r.less(size)
		if !s.limited && !old {
			r.raise(size)
		}
	case 'E':
		if old {
			return false
		}
		r.w.Began, r.rest = r.clock, 0
		r.w.Threshold = (r.w.Size - r.w.Size%2) / 2
		r.w.Size = r.w.Threshold
		if r.w.Size < 2*r.mtu {
			r.w.Size = 2 * r.mtu
		}
	case 'C':
		r.w.Size, r.w.Began, r.rest = 2*r.mtu, -1, 0
	}
	return s.call == 'E'
}

func (r *reading) less(size int64) {
	if size > r.w.Flight {
		size = r.w.Flight
	}
	r.w.Flight -= size
}

func (r *reading) raise(size int64) {
	slow := r.w.Size < r.w.Threshold
	for range size {
		if slow {
			r.w.Size++
			continue
		}
		r.rest++
		if r.rest == r.w.Size {
			r.rest = 0
			r.w.Size += r.mtu
		}
	}
}

// play makes the call of a controller.
func play(c *Ctl, s step) bool {
	switch s.call {
	case 'S':
		c.Sent(s.size)
	case 'L':
		c.Lost(s.size)
	case 'D':
		c.Dropped(s.size)
	case 'A':
		c.Acked(s.now, s.sent, s.size, s.limited)
	case 'E':
		return c.Event(s.now, s.sent)
	case 'C':
		c.Collapse()
	}
	return false
}

// someTime is one near the clock or Began, at an edge, or anything.
func someTime(r *rand.Rand, clock, began int64) int64 {
	switch r.IntN(16) {
	case 0:
		return []int64{math.MinInt64, -1, 0, 1, api.MaxTime - 1, api.MaxTime, api.MaxTime + 1, math.MaxInt64}[r.IntN(8)]
	case 1:
		return int64(r.Uint64() >> r.IntN(64))
	case 2, 3, 4, 5:
		return clock + int64(r.IntN(9)) - 4
	case 6, 7, 8, 9:
		return began + int64(r.IntN(3)) - 1
	}
	return r.Int64N(clock+100) + 1
}

// someSize is one of a datagram, at an edge, beside what raises the window, or anything.
func someSize(r *rand.Rand, m *reading) int64 {
	switch r.IntN(12) {
	case 0:
		return []int64{math.MinInt64, -1, 0, 1, 65534, 65535, 65536, math.MaxInt64}[r.IntN(8)]
	case 1:
		return int64(r.Uint64() >> r.IntN(64))
	case 2:
		return m.w.Size - m.rest + int64(r.IntN(3)) - 1
	case 3:
		return m.w.Flight + int64(r.IntN(3)) - 1
	case 4:
		return m.w.Size - m.w.Flight + int64(r.IntN(3)) - 1
	case 5:
		return m.w.Threshold - m.w.Size + int64(r.IntN(3)) - 1
	}
	return r.Int64N(m.mtu) + 1
}

func someStep(r *rand.Rand, m *reading) step {
	calls := "SSSSAAAAAAAALDEEC"
	s := step{call: calls[r.IntN(len(calls))], size: someSize(r, m), limited: r.IntN(5) == 0}
	s.now, s.sent = someTime(r, m.clock, m.w.Began), someTime(r, m.clock, m.w.Began)
	if r.IntN(3) > 0 {
		// Times that rise by little, so that all of them don't soon lie at the end.
		s.now = m.clock + int64(r.IntN(3))
	}
	return s
}

// someMTU is one at an edge or between.
func someMTU(r *rand.Rand) int {
	if r.IntN(2) == 0 {
		return []int{1200, 1201, 1471, 1472, 1473, 7359, 7360, 7361, 8999, 9000}[r.IntN(10)]
	}
	return 1200 + r.IntN(7801)
}

func TestAgainstASecondReading(t *testing.T) {
	r := rand.New(rand.NewPCG(10, 1))
	for range 2000 {
		mtu := someMTU(r)
		c, m := made(t, mtu), newReading(int64(mtu))
		var steps []step
		for range 1 + r.IntN(80) {
			s := someStep(r, m)
			steps = append(steps, s)
			if got, want := play(c, s), m.take(s); got != want {
				t.Errorf("P10.4: against a second reading: %t, want %t", got, want)
			}
			views(t, "P10.3: against a second reading", c, m.w)
			size := someSize(r, m)
			may(t, "P10.6: against a second reading", c, size, m.w.Size-m.w.Flight >= into(size, 65535))
			if t.Failed() {
				t.Fatalf("behind New(%d) and %+v", mtu, steps)
			}
		}
	}
}

// Two that are told the same in turns with others answer the same (R4).
func TestAlikeAnswerAlike(t *testing.T) {
	r := rand.New(rand.NewPCG(10, 2))
	for range 200 {
		mtu := someMTU(r)
		a, b, other, m := made(t, mtu), made(t, mtu), made(t, someMTU(r)), newReading(int64(mtu))
		for range 60 {
			s := someStep(r, m)
			m.take(s)
			first := play(a, s)
			play(other, someStep(r, m))
			other.May(someSize(r, m))
			if second := play(b, s); first != second || a.View() != b.View() {
				t.Fatalf("R4: %t and %+v, %t and %+v", first, a.View(), second, b.View())
			}
		}
	}
}

// What follows: Size is never below 2 mtu, and falls by Event and Collapse alone; Flight is never below 0.
func TestSizeFallsByACutAlone(t *testing.T) {
	r := rand.New(rand.NewPCG(10, 3))
	for range 1000 {
		mtu := someMTU(r)
		c, m := made(t, mtu), newReading(int64(mtu))
		for range 60 {
			s := someStep(r, m)
			m.take(s)
			ahead := c.View()
			cut := play(c, s) || s.call == 'C'
			v := c.View()
			if v.Size < 2*int64(mtu) || v.Flight < 0 {
				t.Fatalf("What follows: behind %+v of %d: %+v", s, mtu, v)
			}
			if v.Size < ahead.Size && !cut {
				t.Fatalf("What follows: %+v took Size from %d to %d", s, ahead.Size, v.Size)
			}
		}
	}
}

// What follows: between an Event that answers true and a Collapse, no Event of what was sent up to then cuts again.
func TestOneCutAPeriod(t *testing.T) {
	r := rand.New(rand.NewPCG(10, 4))
	for range 1000 {
		mtu := someMTU(r)
		c := made(t, mtu)
		var clock, last int64 = 0, -1 // when the last cut was made, -1 behind a Collapse
		for range 80 {
			clock += int64(r.IntN(4))
			sent := max(clock-int64(r.IntN(12)), 0)
			switch r.IntN(12) {
			case 0:
				c.Collapse()
				last = -1
			case 1, 2, 3:
				ahead := c.View()
				got := c.Event(clock, sent)
				if got != (last < 0 || sent > last) {
					t.Fatalf("What follows: Event(%d, %d) = %t, the last cut being at %d", clock, sent, got, last)
				}
				if !got && c.View() != ahead {
					t.Fatalf("What follows: Event(%d, %d) is false, and %+v became %+v", clock, sent, ahead, c.View())
				}
				if got {
					last = clock
				}
			default:
				c.Sent(1200)
				c.Acked(clock, sent, int64(r.IntN(9000)), false)
			}
		}
	}
}

// What follows: in slow start, as long as Size stays below Threshold, what is acknowledged is what Size rises by.
func TestSlowStartRisesByWhatIsAcknowledged(t *testing.T) {
	r := rand.New(rand.NewPCG(10, 5))
	for range 500 {
		mtu := someMTU(r)
		c := made(t, mtu)
		if r.IntN(2) == 0 {
			for range 5 {
				c.Acked(0, 0, 65535, false)
			}
			cuts(t, "P10.4", c, 50, 0, true)
			c.Collapse()
		}
		start, sum := c.View(), int64(0)
		for range 100 {
			size, limited := r.Int64N(1500), r.IntN(4) == 0
			if start.Size+sum+size >= start.Threshold {
				break
			}
			c.Acked(60, 55, size, limited)
			if !limited {
				sum += size
			}
			views(t, "What follows: slow start", c, win(start.Size+sum, start.Threshold, 0, -1))
		}
		if t.Failed() {
			t.FailNow()
		}
	}
}

// What follows: behind an Event, Size bytes that are acknowledged, in whatever pieces, raise it by mtu, and fewer by nothing.
func TestAWindowRaisesByADatagram(t *testing.T) {
	r := rand.New(rand.NewPCG(10, 6))
	for range 500 {
		mtu := someMTU(r)
		c := made(t, mtu)
		for range r.IntN(6) {
			c.Acked(1, 1, r.Int64N(65536), false)
		}
		cuts(t, "P10.4", c, 100, 1, true)
		for range 4 {
			want := c.View()
			for left := want.Size; left > 0; {
				views(t, "What follows: less than a window", c, want)
				size := min(left, r.Int64N([]int64{2, 100, 1500, 65536}[r.IntN(4)])+1)
				c.Acked(110, 101, size, false)
				c.Acked(110, 100, r.Int64N(5000), false)
				c.Acked(110, 101, r.Int64N(5000), true)
				left -= size
			}
			want.Size += int64(mtu)
			views(t, "What follows: a window", c, want)
		}
		if t.Failed() {
			t.FailNow()
		}
	}
}
