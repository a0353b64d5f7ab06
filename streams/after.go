package streams

import "portage/api"

// Acked says that a frame was acknowledged (P18.14).
func (s *Streams) Acked(f api.Frame) {
	p := s.sendingOf(f.Stream)
	if p == nil {
		return
	}
	switch f.Kind {
	case api.KStream:
		p.part.Acked(f.Offset, f.Size, f.Fin)
	case api.KReset:
		p.reset.ack()
	}
	s.settle(s.open[f.Stream])
}

// Lost says that a frame was lost (P18.15).
func (s *Streams) Lost(f api.Frame) {
	switch f.Kind {
	case api.KMaxData:
		s.in.Again(f.Limit)
	case api.KMaxStreams:
		s.theirs[kindIf(f.Uni)].lost(f.Limit)
	case api.KDataBlocked:
		s.out.Again(f.Limit)
	case api.KStreamsBlocked:
		s.ours[kindIf(f.Uni)].lost(f.Limit)
	case api.KStream, api.KReset, api.KStreamDataBlocked:
		if p := s.sendingOf(f.Stream); p != nil {
			p.lost(f)
		}
	case api.KStop, api.KMaxStreamData:
		if p := s.receivingOf(f.Stream); p != nil {
			p.lost(f)
		}
	}
}

func (p *sending) lost(f api.Frame) {
	switch f.Kind {
	case api.KStream:
		p.part.Lost(f.Offset, f.Size, f.Fin)
	case api.KReset:
		p.reset.lost()
	case api.KStreamDataBlocked:
		p.out.Again(f.Limit)
	}
}

func (p *receiving) lost(f api.Frame) {
	switch f.Kind {
	case api.KStop:
		p.stop.lost()
	case api.KMaxStreamData:
		p.in.Again(f.Limit)
	}
}
