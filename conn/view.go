package conn

import (
	"slices"

	"portage/api"
)

const (
	packetHeld = 64 // bytes that a packet counts for, which is kept till it is known what became of it
	runHeld    = 16 // and a run of numbers that have come
)

// view tells how it stands (C9).
func (e *end) view() api.ConnView {
	v := api.ConnView{
		State: e.state, Role: e.role,
		Complete: e.hand.Complete(), Confirmed: e.confirmed, Validated: e.validated,
		Credit: e.credit, Got: e.got, Sent: e.sent,
		Code: e.parting.Code, Own: e.parting.Own, Told: e.told, Kind: e.parting.Size, Reason: slices.Clone(e.parting.Data),
		IdleAt: e.idleAt, EndAt: e.endAt,
		There: slices.Clone(e.there), Recovery: e.loss.View(),
	}
	if e.credit > 0 {
		v.In = e.in
	}
	for space := range v.Open {
		v.Open[space] = e.hand.Open(space)
	}
	v.Held = e.held(v.Recovery)
	return v
}

// held tells how much is held, as what is kept counts.
func (e *end) held(r api.Recovery) int64 {
	n := e.streams.Held() + e.hand.Held()
	for space, s := range e.seen {
		n += packetHeld * int64(r.Spaces[space].Kept)
		if s != nil {
			n += runHeld * int64(len(s.Runs()))
		}
	}
	return n
}
