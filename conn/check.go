package conn

import (
	"cmp"

	"portage/api"
	"portage/params"
)

// Bounds that no other package tells.
const (
	mostInitialRTT  = 60000000
	mostGranularity = 1000000
	mostFirst       = 1 << 30
	mostID          = 20
	leastBurst      = 2 // datagrams that the pacer lets go at once
)

// Check tells whether a configuration may be (C1).
func Check(c api.Config, role int) api.Errno {
	if role != api.Client && role != api.Server || params.Check(c.Params) != api.OK || !mayBe(c) || !mayCall(c.To, role) {
		return api.ErrConnConfig
	}
	return api.OK
}

// mayBe looks at what is the same in both roles.
func mayBe(c api.Config) bool {
	for _, first := range c.First {
		if !within(first, 0, mostFirst) {
			return false
		}
	}
	return within(c.MTU, api.MinMTU, api.MaxMTU) &&
		within(c.Capacity, 1, api.MaxBuffer) &&
		within(c.InitialRTT, 1, mostInitialRTT) &&
		within(c.Granularity, 1, mostGranularity) &&
		within(c.MaxPTO, c.Granularity, api.MaxSpan) &&
		within(c.Burst, leastBurst*int64(c.MTU), api.MaxWindow) &&
		within(len(c.ID), 1, mostID)
}

// mayCall looks at the id by which the other end is called at first: a server calls nobody.
func mayCall(to []byte, role int) bool {
	if role == api.Server {
		return len(to) == 0
	}
	return within(len(to), 1, mostID)
}

func within[T cmp.Ordered](x, least, most T) bool {
	return x >= least && x <= most
}
