package streams

import (
	"portage/api"
	"portage/frame"
)

// Take takes a frame that has come (P18.10).
func (s *Streams) Take(f api.Frame) api.Code {
	if _, err := frame.Size(f); err != api.OK {
		return api.CodeFrame
	}
	switch f.Kind {
	case api.KMaxData:
		s.out.Raise(f.Limit)
	case api.KMaxStreams:
		s.ours[kindIf(f.Uni)].raise(f.Limit)
	case api.KDataBlocked, api.KStreamsBlocked:
	case api.KReset, api.KStream, api.KStreamDataBlocked:
		return s.takeOfStream(f, s.receives(f.Stream))
	case api.KStop, api.KMaxStreamData:
		return s.takeOfStream(f, s.sends(f.Stream))
	default:
		return api.CodeProtocol
	}
	return api.CodeNone
}

// takeOfStream takes a frame about a stream, which has or hasn't the part that it speaks of.
func (s *Streams) takeOfStream(f api.Frame, has bool) api.Code {
	if code := s.meet(f.Stream, has); code != api.CodeNone {
		return code
	}
	st := s.open[f.Stream]
	if st == nil {
		// It has ended: the frame comes late.
		return api.CodeNone
	}
	switch f.Kind {
	case api.KMaxStreamData:
		st.sending.out.Raise(f.Limit)
	case api.KStop:
		st.sending.breakOff(f.Code)
	case api.KStream, api.KReset:
		return s.takeBytes(st.receiving, f)
	}
	return api.CodeNone
}

// meet tells whether the other end may speak of a stream, and opens it, if it is a new one of theirs, behind those of lower places.
func (s *Streams) meet(id int64, has bool) api.Code {
	kind, place := kindOf(id), placeOf(id)
	if !has {
		return api.CodeState
	}
	if s.isOurs(id) {
		if place >= s.ours[kind].opened {
			return api.CodeState
		}
		return api.CodeNone
	}
	t := &s.theirs[kind]
	if place >= t.limit {
		return api.CodeStreams
	}
	for ; t.opened <= place; t.opened++ {
		id := idOf(t.opened, 1-s.role, kind)
		s.add(id)
		s.unseen = append(s.unseen, id)
	}
	return api.CodeNone
}

// takeBytes takes a stream's bytes, or its reset.
func (s *Streams) takeBytes(p *receiving, f api.Frame) api.Code {
	end := f.Offset + int64(len(f.Data))
	if f.Kind == api.KReset {
		end = f.Size
	}
	rise := max(end-p.in.View().Taken, 0)
	if all := s.in.View(); rise > all.Limit-all.Taken {
		return api.CodeFlow
	}
	if code := p.take(f); code != api.CodeNone {
		return code
	}
	// Neither can be refused: the part's limit is its In's.
	p.in.Take(rise)
	s.in.Take(rise)
	if f.Kind == api.KReset && !p.reset && p.part.View().Reset {
		p.reset, p.code = true, f.Code
		// Nobody will read what was not read.
		v := p.in.View()
		s.consume(p, v.Taken-v.Consumed)
	}
	return api.CodeNone
}

// take hands a frame to the part.
func (p *receiving) take(f api.Frame) api.Code {
	var err api.Errno
	if f.Kind == api.KReset {
		_, err = p.part.Reset(f.Size)
	} else {
		_, err = p.part.Take(f.Offset, f.Data, f.Fin)
	}
	switch err {
	case api.ErrRecvLimit:
		return api.CodeFlow
	case api.ErrRecvFinal:
		return api.CodeFinal
	}
	return api.CodeNone
}
