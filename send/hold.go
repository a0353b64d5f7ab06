package send

// hold puts bytes behind those that were written. The byte at an offset lies in the ring where the offset's rest by the capacity says: what lay there is below Base, since no more than the capacity is held.
func (s *Send) hold(p []byte) {
	if len(p) == 0 {
		return
	}
	if s.held == nil {
		s.held = make([]byte, s.capacity)
	}
	n := copy(s.held[s.written%s.capacity:], p)
	copy(s.held, p[n:])
	s.written += int64(len(p))
}

// piece puts together the bytes from from on and below to.
func (s *Send) piece(from, to int64) []byte {
	if from == to {
		// The ring may be gone by then.
		return nil
	}
	data := make([]byte, to-from)
	n := copy(data, s.held[from%s.capacity:])
	copy(data[n:], s.held)
	return data
}

// release lets the ring go once no byte may be sent any more.
func (s *Send) release() {
	if s.stopped || s.ended && s.base == s.written {
		s.held = nil
	}
}
