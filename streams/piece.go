package streams

import (
	"portage/api"
	"portage/frame"
)

func (s *Streams) waitingPiece(l []*stream) (word, bool) {
	var turn *stream
	for _, st := range l {
		if p := st.sending; p != nil && p.part.Waits(s.reach(p)) && (turn == nil || s.ahead(st, turn)) {
			turn = st
		}
	}
	if turn == nil {
		return word{}, false
	}
	bare, has := turn.begin(s.reach(turn.sending))
	least := bare
	if has {
		least.Data = make([]byte, 1)
	}
	return word{least: least, tell: func(room int) api.Frame { return s.tellPiece(turn, fit(bare, room)) }}, true
}

// reach tells up to which offset a part's bytes may be sent.
func (s *Streams) reach(p *sending) int64 {
	return p.out.View().Used + min(p.out.Room(), s.out.Room())
}

// ahead tells whether it is a's turn ahead of b's, whose id is the lower one.
func (s *Streams) ahead(a, b *stream) bool {
	if a.urgency != b.urgency {
		return a.urgency < b.urgency
	}
	last := s.last[a.urgency]
	return b.id <= last && last < a.id
}

// begin gives the frame of a stream's next piece without its bytes, and tells whether it has any.
func (st *stream) begin(limit int64) (api.Frame, bool) {
	v := st.sending.part.View()
	bare := api.Frame{Kind: api.KStream, Stream: st.id, Offset: v.Sent}
	if len(v.Lost) > 0 {
		bare.Offset = v.Lost[0].Lo
		return bare, true
	}
	return bare, v.Sent < min(v.Written, limit)
}

// fit tells how many bytes at most a stream frame may have that is no longer than room: without any, it isn't.
func fit(bare api.Frame, room int) int {
	size, _ := frame.Size(bare)
	// No part holds more than MaxBuffer. How many there are takes a byte of size already.
	n := min(room-size, api.MaxBuffer)
	for size-1+width(n)+n > room {
		n--
	}
	return n
}

// width tells how many bytes a number has in a frame: those of a frame of one number, without its type's.
func width(n int) int {
	size, _ := frame.Size(api.Frame{Kind: api.KMaxData, Limit: int64(n)})
	return size - 1
}

// tellPiece tells a stream's next piece, of most bytes at most.
func (s *Streams) tellPiece(st *stream, most int) api.Frame {
	p := st.sending
	off, data, fin, _ := p.part.Next(most, s.reach(p))
	// What was sent ahead was used then. Neither Out can refuse: the limit was the lesser of both.
	fresh := max(off+int64(len(data))-p.out.View().Used, 0)
	p.out.Use(fresh)
	s.out.Use(fresh)
	s.last[st.urgency] = st.id
	return api.Frame{Kind: api.KStream, Stream: st.id, Offset: off, Data: data, Fin: fin}
}
