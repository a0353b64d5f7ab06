package cubic

import "portage/api"

// Wherever a result goes into another operation it stands in a conversion to float64: without that
// the language lets a compiler fuse the two (a product and a sum, say) and leave out the rounding between.

// A curve leads back to where the window had been, and on from there; it is reckoned from the time that has passed.
type curve struct {
	epoch  int64   // EPOCH: when it began; -1: it hasn't
	origin float64 // ORIGIN: the height at which it waits
	wait   int64   // K: how long behind epoch it waits there
	plain  float64 // EST: how far a plain controller would have come
}

func noCurve() curve {
	return curve{epoch: -1}
}

// leaveCurve forgets the curve, and what was won on it.
func (c *Ctl) leaveCurve() {
	c.curve, c.part = noCurve(), 0
}

// climb raises the window towards its target, by the share of it that was acknowledged (P11.2).
func (c *Ctl) climb(size int64) {
	window, acked := float64(c.window.Size), float64(size)
	if c.curve.epoch < 0 {
		c.curve = newCurve(c.clock, window, c.peak, c.mtu)
	}
	product := float64(acked * float64(c.mtu))
	c.curve.goOn(float64(product / window))
	way := float64(c.curve.target(c.clock, window, c.mtu) - window)
	product = float64(way * acked)
	c.win(float64(product / window))
}

// win takes what was won over to the window, as far as it is whole bytes.
func (c *Ctl) win(more float64) {
	c.part = float64(c.part + more)
	whole := int64(c.part)
	c.window.Size += whole
	c.part = float64(c.part - float64(whole))
}

// newCurve is one that begins now, at the window's height.
func newCurve(now int64, window, peak float64, mtu int64) curve {
	if window < peak {
		return curve{epoch: now, origin: peak, wait: reach(float64(peak-window), mtu), plain: window}
	}
	return curve{epoch: now, origin: window, plain: window}
}

// goOn lets the plain controller gain: by less, as long as it would still be below where the window was cut.
func (v *curve) goOn(gain float64) {
	if v.plain < v.origin {
		gain = float64(gain * (9.0 / 17))
	}
	v.plain = float64(v.plain + gain)
}

// target is what the window is raised towards: never below it, nor above one and a half of it.
func (v *curve) target(now int64, window float64, mtu int64) float64 {
	height := float64(v.origin + cube(now-v.epoch-v.wait, mtu))
	return min(max(height, v.plain, window), float64(1.5*window))
}

// reach is the least span, from 0 on, whose cube is at least so much. Halving finds it, since the cube never falls as the span rises.
func reach(height float64, mtu int64) int64 {
	low, high := int64(0), int64(api.MaxTime)
	for low < high {
		middle := (low + high) / 2
		if cube(middle, mtu) >= height {
			high = middle
		} else {
			low = middle + 1
		}
	}
	return low
}

// cube is how far the curve lies from where it waits, so many microseconds behind that (or, below 0, ahead of it).
func cube(span, mtu int64) float64 {
	seconds := float64(float64(span) / 1000000)
	squared := float64(seconds * seconds)
	cubed := float64(squared * seconds)
	return float64(cubed * float64(0.4*float64(mtu)))
}

// lastPeak is how far a window came that is cut: a little less of it, if it had not come back to the peak of the last time.
func lastPeak(window, peak float64) float64 {
	if window < peak {
		return float64(window * 0.85)
	}
	return window
}
