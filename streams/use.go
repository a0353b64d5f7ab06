package streams

import "portage/api"

// Write takes bytes to be sent on a stream, all or none (P18.5).
func (s *Streams) Write(id int64, p []byte) api.Errno {
	to := s.sendingOf(id)
	if to == nil {
		return api.ErrStreamsID
	}
	return to.part.Write(p)
}

// Fin says that no more will be sent on a stream (P18.5).
func (s *Streams) Fin(id int64) api.Errno {
	to := s.sendingOf(id)
	if to == nil {
		return api.ErrStreamsID
	}
	return to.part.Fin()
}

// Reset breaks off what is sent on a stream (P18.6).
func (s *Streams) Reset(id, code int64) api.Errno {
	p := s.sendingOf(id)
	switch {
	case p == nil:
		return api.ErrStreamsID
	case !mayBeCode(code):
		return api.ErrArg
	case !p.breakOff(code):
		return api.ErrOver
	}
	return api.OK
}

// Read tells the bytes that are next on a stream; true: there are no more (P18.7).
func (s *Streams) Read(id int64, most int) ([]byte, bool, api.Errno) {
	p := s.receivingOf(id)
	if p == nil {
		return nil, false, api.ErrStreamsID
	}
	if p.reset {
		p.done = true
		s.settle(s.open[id])
		return nil, false, api.ErrOver
	}
	data, end := p.part.Read(most)
	s.consume(p, int64(len(data)))
	if end {
		p.done = true
		s.settle(s.open[id])
	}
	return data, end, api.OK
}

// Stop asks the other end to break off what it sends on a stream (P18.8).
func (s *Streams) Stop(id, code int64) api.Errno {
	p := s.receivingOf(id)
	switch {
	case p == nil:
		return api.ErrStreamsID
	case !mayBeCode(code):
		return api.ErrArg
	case p.stop.asked() || !p.endless():
		return api.ErrOver
	}
	p.stop.ask(code)
	return api.OK
}

// Rank says how urgent a stream is (P18.9).
func (s *Streams) Rank(id int64, urgency int) api.Errno {
	if s.sendingOf(id) == nil {
		return api.ErrStreamsID
	}
	if urgency < 0 || urgency >= urgencies {
		return api.ErrArg
	}
	s.open[id].urgency = urgency
	return api.OK
}

// sendingOf gives the sending part of a stream; nil: it isn't open, or has none.
func (s *Streams) sendingOf(id int64) *sending {
	if st := s.open[id]; st != nil {
		return st.sending
	}
	return nil
}

// receivingOf gives the receiving part of a stream; nil: it isn't open, or has none.
func (s *Streams) receivingOf(id int64) *receiving {
	if st := s.open[id]; st != nil {
		return st.receiving
	}
	return nil
}

func mayBeCode(code int64) bool { return code >= 0 && code <= api.MaxNumber }
