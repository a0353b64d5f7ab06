package send

// Waits tells whether there is something to be sent (P15.5).
func (s *Send) Waits(limit int64) bool {
	_, _, ok := s.due(1, limit)
	return ok
}

// Next tells the piece that is to be sent next (P15.4).
func (s *Send) Next(most int, limit int64) (off int64, data []byte, fin, ok bool) {
	from, to, ok := s.due(most, limit)
	if !ok {
		return 0, nil, false, false
	}
	s.lost.Cut(from, to-1)
	s.sent = max(s.sent, to)
	fin = s.ended && to == s.written
	if fin && s.fin != finAcked {
		s.fin = finUnderWay
	}
	return from, s.piece(from, to), fin, true
}

// due tells the offsets of the piece that is next, those from from on and below to; false: there is none.
func (s *Send) due(most int, limit int64) (from, to int64, ok bool) {
	from, to = s.sent, min(s.written, limit)
	switch {
	case s.stopped:
	case s.lost.Len() > 0:
		low := s.lost.Runs()[0]
		from, to = low.Lo, low.Hi+1
		fallthrough
	case from < to:
		// Without room there is no piece at all: the fin doesn't go ahead of bytes.
		if most >= 1 {
			return from, from + min(to-from, int64(most)), true
		}
	case s.finWaits():
		return s.written, s.written, true
	}
	return 0, 0, false
}

// finWaits tells whether the fin is to be sent alone, if no byte is.
func (s *Send) finWaits() bool {
	return s.ended && s.sent == s.written && (s.fin == finNever || s.fin == finLost)
}
