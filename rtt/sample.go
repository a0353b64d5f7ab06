package rtt

import "portage/api"

// span takes a span, or a time that is handed to a clock of 0, into 0 to MaxTime. Within it no sum and no product of this layer leaves an int64.
func span(x int64) int64 {
	return min(max(x, 0), api.MaxTime)
}

// first is what the first sample tells. A delay isn't taken off: nothing is known yet that would show it to be too great.
func first(now, latest int64) api.RTT {
	return api.RTT{Has: true, Latest: latest, Least: latest, Smooth: latest, Var: latest / 2, First: now}
}

// further is what is known behind one more sample.
func further(r api.RTT, latest, delay int64, restart bool) api.RTT {
	r.Latest = latest
	if restart || latest < r.Least {
		r.Least = latest
	}
	taken := adjusted(r.Least, latest, delay)
	// Var ahead of Smooth: it is reckoned by the Smooth ahead of the sample.
	r.Var = (3*r.Var + distance(r.Smooth, taken)) / 4
	r.Smooth = (7*r.Smooth + taken) / 8
	return r
}

// adjusted is latest without the delay, unless the round trip would be shorter so than the least: the delay isn't believed then.
func adjusted(least, latest, delay int64) int64 {
	if latest >= least+delay {
		return latest - delay
	}
	return latest
}

func distance(a, b int64) int64 {
	return max(a, b) - min(a, b)
}
