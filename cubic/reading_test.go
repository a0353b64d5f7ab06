package cubic

import (
	"math"
	"math/big"

	"portage/api"
)

// A step is a call that was made, by its name's first letter.
type step struct {
	call            byte
	now, sent, size int64
	limited         bool
}

// play makes the call of a controller.
func play(c *Ctl, s step) bool {
	switch s.call {
	case 'S':
		c.Sent(s.size)
	case 'L':
		c.Lost(s.size)
	case 'D':
		c.Dropped(s.size)
	case 'A':
		c.Acked(s.now, s.sent, s.size, s.limited)
	case 'E':
		return c.Event(s.now, s.sent)
	case 'C':
		c.Collapse()
	}
	return false
}

// into takes x into 0 to most.
func into(x, most int64) int64 {
	if x < 0 {
		return 0
	}
	if x > most {
		return most
	}
	return x
}

// A rounded is a number of 53 bits, as a float64 has them: what is reckoned with it is rounded by itself, whatever a compiler makes of float64s.
type rounded = *big.Float

func fresh() rounded { return new(big.Float).SetPrec(53).SetMode(big.ToNearestEven) }

func of(x int64) rounded         { return fresh().SetInt64(x) }
func plus(x, y rounded) rounded  { return fresh().Add(x, y) }
func minus(x, y rounded) rounded { return fresh().Sub(x, y) }
func times(x, y rounded) rounded { return fresh().Mul(x, y) }
func over(x, y rounded) rounded  { return fresh().Quo(x, y) }
func below(x, y rounded) bool    { return x.Cmp(y) < 0 }
func ratio(n, d int64) rounded   { return over(of(n), of(d)) }
func near(x rounded) float64     { f, _ := x.Float64(); return f }

// A reading is a second reading of the chapter's words, each operation in a number of its own.
type reading struct {
	mtu, clock  int64
	w           api.Window
	peak, part  rounded
	epoch, k    int64
	origin, est rounded
	by          [4]int // how often TARGET was the curve, EST, Size, 1.5 x Size
}

func newReading(mtu int64) *reading {
	size := int64(14720)
	if 2*mtu > size {
		size = 2 * mtu
	}
	if 10*mtu < size {
		size = 10 * mtu
	}
	r := &reading{mtu: mtu, w: api.Window{Size: size, Threshold: 1<<62 - 1, Began: -1}}
	r.peak, r.part, r.epoch = of(0), of(0), -1
	r.origin, r.est = of(0), of(0)
	return r
}

func (r *reading) take(s step) bool {
	now, sent, size := into(s.now, 1<<50), into(s.sent, 1<<50), into(s.size, 65535)
	if s.call == 'A' || s.call == 'E' {
		if now > r.clock {
			r.clock = now
		}
	}
	old := r.w.Began != -1 && r.w.Began >= sent
	switch s.call {
	case 'S':
		r.w.Flight += size
	case 'L', 'D':
		r.less(size)
	case 'A':
		r.less(size)
		if !s.limited && !old {
			r.raise(size)
		}
	case 'E':
		if old {
			return false
		}
		r.cut()
	case 'C':
		r.w.Size, r.w.Began, r.epoch, r.part = 2*r.mtu, -1, -1, of(0)
	}
	return s.call == 'E'
}

func (r *reading) less(size int64) {
	if size > r.w.Flight {
		size = r.w.Flight
	}
	r.w.Flight -= size
}

func (r *reading) cut() {
	r.w.Began, r.epoch, r.part = r.clock, -1, of(0)
	if below(of(r.w.Size), r.peak) {
		r.peak = times(of(r.w.Size), ratio(85, 100))
	} else {
		r.peak = of(r.w.Size)
	}
	r.w.Threshold = (7*r.w.Size - 7*r.w.Size%10) / 10
	r.w.Size = r.w.Threshold
	if r.w.Size < 2*r.mtu {
		r.w.Size = 2 * r.mtu
	}
}

func (r *reading) cube(d int64) rounded {
	s := over(of(d), of(1000000))
	return times(times(times(s, s), s), times(ratio(4, 10), of(r.mtu)))
}

// wait looks for K about the cube root, one by one.
func (r *reading) wait(lack rounded) int64 {
	k := int64(math.Cbrt(near(lack)/(0.4*float64(r.mtu))) * 1000000)
	for below(r.cube(k), lack) {
		k++
	}
	for k > 0 && !below(r.cube(k-1), lack) {
		k--
	}
	return k
}

func (r *reading) raise(acked int64) {
	if r.w.Size < r.w.Threshold {
		r.w.Size += acked
		return
	}
	if acked > r.w.Size {
		acked = r.w.Size
	}
	size, mtu, window := of(acked), of(r.mtu), of(r.w.Size)
	if r.epoch == -1 {
		r.epoch, r.est, r.origin, r.k = r.clock, window, window, 0
		if below(window, r.peak) {
			r.origin, r.k = r.peak, r.wait(minus(r.peak, window))
		}
	}
	gain := over(times(size, mtu), window)
	if below(r.est, r.origin) {
		gain = times(gain, ratio(9, 17))
	}
	r.est = plus(r.est, gain)
	target := r.choose(window)
	r.part = plus(r.part, over(times(minus(target, window), size), window))
	more, _ := r.part.Int64()
	r.w.Size += more
	r.part = minus(r.part, of(more))
}

// choose is TARGET.
func (r *reading) choose(window rounded) rounded {
	curve, most := plus(r.origin, r.cube(r.clock-r.epoch-r.k)), times(ratio(3, 2), window)
	is, target := 0, curve
	if below(target, r.est) {
		is, target = 1, r.est
	}
	if below(target, window) {
		is, target = 2, window
	}
	if below(most, target) {
		is, target = 3, most
	}
	r.by[is]++
	return target
}
