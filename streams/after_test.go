package streams

import (
	"math"
	"testing"

	"portage/api"
)

// went is what is kept of a piece.
func went(id, off, size int64, fin bool) api.Frame {
	return api.Frame{Kind: api.KStream, Stream: id, Offset: off, Size: size, Fin: fin}
}

// Acked and Lost of pieces are told to the sending part.
func TestPiecesAfter(t *testing.T) {
	for _, id := range []int64{0, 1, 2} {
		s := varied(t)
		writes(t, "P18.5", s, id, "abcdefgh")
		ends(t, "P18.5", s, id)
		tells(t, "P18.12", s, piece(id, 0, "abcdefgh."))
		s.Lost(went(id, 2, 4, false))
		s.Acked(went(id, 3, 2, false))
		s.Acked(went(id, 0, 1, false))
		v := view(t, "P18.14, P18.15", s, id)
		want := api.SendView{Written: 8, Sent: 8, Base: 1, Acked: []api.Run{{Lo: 0, Hi: 0}, {Lo: 3, Hi: 4}}, Lost: []api.Run{{Lo: 2, Hi: 2}, {Lo: 5, Hi: 5}}, Fin: true, FinSent: true}
		sameView(t, "P18.14, P18.15", api.StreamView{Send: v.Send}, api.StreamView{Send: want})
		tells(t, "P18.15", s, piece(id, 2, "c"))
		tells(t, "P18.15", s, piece(id, 5, "f"))
		quiet(t, "P18.15", s)
		s.Lost(went(id, 8, 0, true))
		tells(t, "P18.15: the fin", s, piece(id, 8, "."))
		s.Acked(went(id, 8, 0, true))
		unchanged(t, "P18.15: acknowledged", s, func() { s.Lost(went(id, 8, 0, true)) })
		s.Lost(went(id, 7, 1, true))
		tells(t, "P18.15: lost late", s, piece(id, 7, "h."))
		s.Acked(went(id, math.MinInt64, math.MaxInt64, true))
		s.Acked(went(id, 0, 8, false))
		if id == 2 {
			open(t, "Words: ended", s, 0, 1, 3)
			continue
		}
		if v := view(t, "P18.14", s, id); !v.Send.Done || v.Send.Base != 8 {
			t.Errorf("P18.14: %+v", v.Send)
		}
		takes(t, "Words", s, reset(id, 1, 0))
		open(t, "Words: not read", s, 0, 1, 2, 3)
		if _, _, err := s.Read(id, 9); err != api.ErrOver {
			t.Errorf("P18.7: %d", err)
		}
		if _, err := s.View(id); err != api.ErrStreamsID {
			t.Errorf("Words: it hasn't ended: %d", err)
		}
	}
}

// A stream whose sending part is done ends with the last byte that is acknowledged, the fin being so already; and the other way round.
func TestEndsWithTheLast(t *testing.T) {
	for _, l := range [][]api.Frame{
		{went(2, 0, 2, false), went(2, 2, 1, true)}, {went(2, 2, 1, true), went(2, 0, 2, false)},
		{went(2, 0, 3, false), went(2, 3, 0, true)}, {went(2, 3, 0, true), went(2, 0, 3, false)},
	} {
		s := varied(t)
		writes(t, "P18.5", s, 2, "abc")
		ends(t, "P18.5", s, 2)
		tells(t, "P18.12", s, piece(2, 0, "abc."))
		s.Acked(l[0])
		open(t, "Words", s, 0, 1, 2, 3)
		s.Acked(l[1])
		open(t, "Words: ended", s, 0, 1, 3)
	}
}

// What was reset is neither acknowledged nor lost any more.
func TestPiecesAfterReset(t *testing.T) {
	s := varied(t)
	writes(t, "P18.5", s, 2, "abc")
	ends(t, "P18.5", s, 2)
	f := kept(tells(t, "P18.12", s, piece(2, 0, "abc.")))
	is(t, "P18.6", s, api.OK, func() api.Errno { return s.Reset(2, 1) })
	unchanged(t, "P18.14, P18.15", s, func() {
		s.Lost(f)
		s.Acked(f)
	})
	open(t, "Words: all of it is acknowledged, and the reset isn't", s, 0, 1, 2, 3)
	s.Acked(tells(t, "P18.11", s, reset(2, 1, 3)))
	open(t, "Words: ended", s, 0, 1, 3)
}

// A reset is acknowledged by any KReset of its stream that comes back, once one was told.
func TestResetAcked(t *testing.T) {
	s := varied(t)
	unchanged(t, "P18.14: not reset", s, func() {
		for _, id := range []int64{0, 1, 2, 3} {
			s.Acked(reset(id, 0, 0))
			s.Lost(reset(id, 0, 0))
		}
	})
	is(t, "P18.6", s, api.OK, func() api.Errno { return s.Reset(2, 1) })
	unchanged(t, "P18.14: not told", s, func() {
		s.Acked(reset(2, 1, 0))
		s.Lost(reset(2, 1, 0))
	})
	f := tells(t, "P18.11", s, reset(2, 1, 0))
	s.Lost(f)
	s.Acked(f)
	open(t, "Words: ended", s, 0, 1, 3)
	quiet(t, "P18.14", s)
}

// What speaks of no open stream, of no such part, or is of another kind, is passed over; so are numbers that may not be.
func TestPassedOver(t *testing.T) {
	s := varied(t)
	for _, id := range []int64{0, 1, 2} {
		writes(t, "P18.5", s, id, "abc")
		ends(t, "P18.5", s, id)
	}
	takes(t, "P18.10", s, piece(3, 0, "abc"), piece(0, 0, "abc"))
	for _, f := range all(s) {
		if f.Kind != api.KStream {
			t.Fatalf("P18.11: %+v", f)
		}
	}
	unchanged(t, "P18.14, P18.15", s, func() {
		for _, id := range append([]int64{3}, closed...) {
			for _, f := range []api.Frame{went(id, 0, 3, true), reset(id, 0, 0), streamDataBlocked(id, 100)} {
				s.Acked(f)
				s.Lost(f)
			}
		}
		for _, id := range append([]int64{2}, closed...) {
			for _, f := range []api.Frame{stop(id, 0), maxStreamData(id, 100)} {
				s.Acked(f)
				s.Lost(f)
			}
		}
		for kind := -1; kind < 40; kind++ {
			switch kind {
			case api.KStream, api.KReset, api.KStop, api.KMaxData, api.KMaxStreamData, api.KMaxStreams, api.KDataBlocked, api.KStreamDataBlocked, api.KStreamsBlocked:
				continue
			}
			for _, id := range []int64{0, 1, 2, 3} {
				f := api.Frame{Kind: kind, Stream: id, Size: 3, Fin: true, Limit: 100, Code: 1}
				s.Acked(f)
				s.Lost(f)
				f.Uni, f.Limit = true, 5
				s.Lost(f)
			}
		}
		for _, off := range []int64{3, 4, api.MaxNumber, math.MaxInt64, math.MinInt64, -5} {
			s.Acked(went(0, off, 5, false))
			s.Lost(went(0, off, 5, false))
		}
		for _, size := range []int64{0, -1, math.MinInt64} {
			s.Acked(went(0, 1, size, false))
			s.Lost(went(0, 1, size, false))
		}
	})
}

// Acked tells of pieces and resets alone: nothing else changes by it, whatever was told.
func TestAckedOfOthers(t *testing.T) {
	s := met(t, api.Client, sized(10, 4, 1), sized(4, 2, 1))
	opens(t, "P18.3", s, false, 0)
	full(t, "P18.3", s, false)
	writes(t, "P18.5", s, 0, "abcdef")
	takes(t, "P18.10", s, piece(1, 0, "abcd"), piece(3, 0, "abcd."))
	reads(t, "P18.7", s, 1, 2, "ab")
	reads(t, "P18.7", s, 3, 4, "abcd.")
	is(t, "P18.8", s, api.OK, func() api.Errno { return s.Stop(1, 3) })
	writes(t, "P18.5", s, 1, "abcdef")
	l := all(s)
	for i, want := range []api.Frame{
		stop(1, 3), maxData(16), maxStreamData(1, 6), maxStreams(true, 2), streamsBlocked(false, 1),
		piece(0, 0, "ab"), streamDataBlocked(0, 2), piece(1, 0, "ab"), dataBlocked(4), streamDataBlocked(1, 2),
	} {
		if i >= len(l) || !same(l[i], want) {
			t.Fatalf("P18.11: %+v, want %+v", l, want)
		}
	}
	for _, f := range l {
		if f.Kind != api.KStream {
			unchanged(t, "P18.14", s, func() { s.Acked(f) })
		}
	}
	// All of them are lost: all are told again, in the order of P18.11.
	for _, f := range l {
		s.Lost(kept(f))
	}
	for _, want := range []api.Frame{
		stop(1, 3), maxData(16), maxStreamData(1, 6), maxStreams(true, 2), dataBlocked(4),
		streamDataBlocked(0, 2), streamDataBlocked(1, 2), streamsBlocked(false, 1), piece(0, 0, "ab"), piece(1, 0, "ab"),
	} {
		tells(t, "P18.15", s, want)
	}
	quiet(t, "P18.15", s)
}
