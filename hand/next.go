package hand

import "portage/api"

// frameRoom is what is kept free of a room for what stands ahead of a crypto frame's bytes.
const frameRoom = 5

// Waits tells whether something of a space's stream is to be told (H4).
func (h *Hand) Waits(space int) bool {
	s := h.side(space)
	return s != nil && s.own.Waits(api.MaxNumber)
}

// Next gives the piece that is to be told next, as a crypto frame (H4).
func (h *Hand) Next(space int, room int) (api.Frame, bool) {
	s := h.side(space)
	if s == nil || room <= frameRoom {
		return api.Frame{}, false
	}
	off, data, _, ok := s.own.Next(room-frameRoom, api.MaxNumber)
	if !ok {
		return api.Frame{}, false
	}
	return api.Frame{Kind: api.KCrypto, Offset: off, Data: data}, true
}

// Acked says that a piece was acknowledged (H4).
func (h *Hand) Acked(space int, f api.Frame) {
	if s := h.side(space); s != nil && f.Kind == api.KCrypto {
		s.own.Acked(f.Offset, f.Size, false)
	}
}

// Lost says that a piece was lost (H4).
func (h *Hand) Lost(space int, f api.Frame) {
	if s := h.side(space); s != nil && f.Kind == api.KCrypto {
		s.own.Lost(f.Offset, f.Size, false)
	}
}
