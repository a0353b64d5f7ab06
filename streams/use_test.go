package streams

import (
	"math"
	"testing"

	"portage/api"
)

// varied is a client with a stream of each sort: ours of two ways 0, of one way 2; theirs of two ways 1, of one way 3. Ours of two ways 4 has ended, so has theirs of one way 7.
func varied(t *testing.T) *Streams {
	t.Helper()
	const say = "varied"
	s := met(t, api.Client, ample(), ample())
	opens(t, say, s, false, 0)
	opens(t, say, s, true, 2)
	opens(t, say, s, false, 4)
	takes(t, say, s, piece(1, 0, ""), piece(7, 0, "."), piece(4, 0, "."))
	reads(t, say, s, 7, 0, ".")
	reads(t, say, s, 4, 0, ".")
	ends(t, say, s, 4)
	tells(t, say, s, maxStreams(true, 5))
	s.Acked(kept(tells(t, say, s, piece(4, 0, "."))))
	open(t, say, s, 0, 1, 2, 3)
	quiet(t, say, s)
	return s
}

// Ids of no open stream.
var closed = append([]int64{4, 5, 6, 7, 8, 9, 11, api.MaxNumber}, wrong...)

// Calls about a sending part of a stream that isn't open, or has none, and about a receiving part likewise: it is looked for ahead of all else.
func TestNoSuchStream(t *testing.T) {
	s := varied(t)
	for _, id := range append([]int64{3}, closed...) {
		is(t, "P18.5: Write", s, api.ErrStreamsID, func() api.Errno { return s.Write(id, []byte("a")) })
		is(t, "P18.5: Write of nothing", s, api.ErrStreamsID, func() api.Errno { return s.Write(id, nil) })
		is(t, "P18.5: Write of too much", s, api.ErrStreamsID, func() api.Errno { return s.Write(id, make([]byte, 101)) })
		is(t, "P18.5: Fin", s, api.ErrStreamsID, func() api.Errno { return s.Fin(id) })
		for _, code := range append([]int64{0, 5, api.MaxNumber}, wrong...) {
			is(t, "P18.6: Reset", s, api.ErrStreamsID, func() api.Errno { return s.Reset(id, code) })
		}
		for _, urgency := range []int{0, 3, 7, 8, -1, math.MinInt, math.MaxInt} {
			is(t, "P18.9: Rank", s, api.ErrStreamsID, func() api.Errno { return s.Rank(id, urgency) })
		}
	}
	for _, id := range append([]int64{2}, closed...) {
		unchanged(t, "P18.7: Read", s, func() { notRead(t, "P18.7", s, id, api.ErrStreamsID) })
		for _, code := range append([]int64{0, 5, api.MaxNumber}, wrong...) {
			is(t, "P18.8: Stop", s, api.ErrStreamsID, func() api.Errno { return s.Stop(id, code) })
		}
	}
}

// Each part takes its calls, whoever opened the stream.
func TestPartsOfStreams(t *testing.T) {
	s := varied(t)
	for _, id := range []int64{0, 1, 2} {
		writes(t, "P18.5", s, id, "ab")
		writes(t, "P18.5", s, id, "")
		is(t, "P18.9", s, api.OK, func() api.Errno { return s.Rank(id, 0) })
		is(t, "P18.6", s, api.OK, func() api.Errno { return s.Reset(id, 0) })
	}
	for _, id := range []int64{0, 1, 3} {
		takes(t, "P18.7", s, piece(id, 0, "abc"))
		reads(t, "P18.7", s, id, 2, "ab")
		is(t, "P18.8", s, api.OK, func() api.Errno { return s.Stop(id, 0) })
		reads(t, "P18.8: what has come may be read", s, id, 2, "c")
	}
}

// Write and Fin answer what layer 15 does.
func TestWriteAndFin(t *testing.T) {
	s := made(t, api.Client, small(), 5)
	s.Peer(small())
	opens(t, "P18.5", s, false, 0)
	writes(t, "P18.5", s, 0, "abc")
	is(t, "P18.5", s, api.ErrFull, func() api.Errno { return s.Write(0, []byte("def")) })
	writes(t, "P18.5", s, 0, "de")
	f := tells(t, "P18.5", s, piece(0, 0, "abcde"))
	is(t, "P18.5: it is held", s, api.ErrFull, func() api.Errno { return s.Write(0, []byte("f")) })
	s.Acked(kept(f))
	writes(t, "P18.5", s, 0, "f")
	ends(t, "P18.5", s, 0)
	is(t, "P18.5", s, api.ErrSendDone, func() api.Errno { return s.Fin(0) })
	is(t, "P18.5", s, api.ErrSendDone, func() api.Errno { return s.Write(0, nil) })
	is(t, "P18.5", s, api.ErrSendDone, func() api.Errno { return s.Write(0, make([]byte, 99)) })
	s.Acked(kept(tells(t, "P18.5", s, piece(0, 5, "f."))))
	// It is Done, and open still: the other end hasn't ended it.
	is(t, "P18.5", s, api.ErrSendDone, func() api.Errno { return s.Fin(0) })
	is(t, "P18.5", s, api.ErrSendDone, func() api.Errno { return s.Write(0, nil) })
	open(t, "Words", s, 0)
	takes(t, "Words", s, piece(0, 0, "."))
	open(t, "Words: the end has come, and wasn't read", s, 0)
	reads(t, "Words", s, 0, 0, ".")
	open(t, "Words: ended", s)
}

// Reset: its refusals in their order, what waits, and what is written no more.
func TestReset(t *testing.T) {
	for _, code := range []int64{0, 1, 77, api.MaxNumber} {
		s := met(t, api.Client, small(), small())
		opens(t, "P18.6", s, false, 0)
		writes(t, "P18.6", s, 0, "abcdef")
		tellsIn(t, "P18.6", s, 6, piece(0, 0, "abc"))
		for _, no := range wrong {
			is(t, "P18.6", s, api.ErrArg, func() api.Errno { return s.Reset(0, no) })
		}
		is(t, "P18.6", s, api.OK, func() api.Errno { return s.Reset(0, code) })
		if v := view(t, "P18.6", s, 0); !v.Send.Stopped || !v.ResetSent || v.Send.Written != 6 || v.Code != 0 {
			t.Errorf("P18.6: %+v", v)
		}
		for _, again := range []int64{0, code, api.MaxNumber} {
			is(t, "P18.6: twice", s, api.ErrOver, func() api.Errno { return s.Reset(0, again) })
		}
		for _, no := range wrong {
			is(t, "P18.6: ErrArg is first", s, api.ErrArg, func() api.Errno { return s.Reset(0, no) })
		}
		is(t, "P18.6", s, api.ErrSendDone, func() api.Errno { return s.Write(0, []byte("g")) })
		is(t, "P18.6", s, api.ErrSendDone, func() api.Errno { return s.Fin(0) })
		f := tells(t, "P18.6", s, reset(0, code, 3))
		quiet(t, "P18.6: the rest isn't sent", s)
		is(t, "P18.6: told", s, api.ErrOver, func() api.Errno { return s.Reset(0, code) })
		s.Acked(f)
		open(t, "Words: the other part isn't done", s, 0)
		is(t, "P18.6: acknowledged", s, api.ErrOver, func() api.Errno { return s.Reset(0, code) })
		quiet(t, "P18.14", s)
	}
}

// A reset of what was never sent has Size 0; of what was sent to its end, but not acknowledged, all of it. What is Done isn't reset.
func TestResetEdges(t *testing.T) {
	s := met(t, api.Client, small(), small())
	opens(t, "P18.6", s, true, 2)
	writes(t, "P18.6", s, 2, "abc")
	is(t, "P18.6", s, api.OK, func() api.Errno { return s.Reset(2, 1) })
	s.Acked(tells(t, "P18.6", s, reset(2, 1, 0)))
	open(t, "Words: it has ended", s)

	s = met(t, api.Client, small(), small())
	opens(t, "P18.6", s, false, 0)
	writes(t, "P18.6", s, 0, "abc")
	ends(t, "P18.6", s, 0)
	f := tells(t, "P18.6", s, piece(0, 0, "abc."))
	is(t, "P18.6: not acknowledged", s, api.OK, func() api.Errno { return s.Reset(0, 1) })
	s.Acked(kept(f))
	tells(t, "P18.6", s, reset(0, 1, 3))

	s = met(t, api.Client, small(), small())
	opens(t, "P18.6", s, false, 0)
	writes(t, "P18.6", s, 0, "abc")
	ends(t, "P18.6", s, 0)
	s.Acked(kept(tells(t, "P18.6", s, piece(0, 0, "abc."))))
	is(t, "P18.6: Done", s, api.ErrOver, func() api.Errno { return s.Reset(0, 1) })
	is(t, "P18.6: ErrArg is first", s, api.ErrArg, func() api.Errno { return s.Reset(0, -1) })
	if v := view(t, "P18.6", s, 0); v.ResetSent || !v.Send.Done || v.Send.Stopped {
		t.Errorf("P18.6: %+v", v)
	}
	quiet(t, "P18.6", s)
}

// Read consumes, of the stream's In and of the connection's; with true the part is done.
func TestRead(t *testing.T) {
	s := met(t, api.Client, small(), small())
	takes(t, "P18.7", s, piece(3, 2, "cdef"), piece(1, 0, "xy"))
	reads(t, "P18.7", s, 3, 9, "")
	takes(t, "P18.7", s, piece(3, 0, "ab"))
	reads(t, "P18.7", s, 3, 0, "")
	reads(t, "P18.7", s, 3, -1, "")
	ins(t, "P18.7", s, 100, 8, 0)
	reads(t, "P18.7", s, 3, 4, "abcd")
	if v := view(t, "P18.7", s, 3); v.In != (api.InView{Limit: 20, Taken: 6, Consumed: 4, Window: 20}) {
		t.Errorf("P18.7: %+v", v.In)
	}
	ins(t, "P18.7", s, 100, 8, 4)
	takes(t, "P18.7", s, piece(3, 6, "."))
	reads(t, "P18.7", s, 3, 1, "e")
	open(t, "P18.7", s, 1, 3)
	reads(t, "P18.7", s, 3, math.MaxInt, "f.")
	ins(t, "P18.7", s, 100, 8, 6)
	open(t, "P18.7: it has ended", s, 1)
	reads(t, "P18.7", s, 1, 9, "xy")
	if v := view(t, "P18.7", s, 1); v.In.Consumed != 2 || v.Recv.Read != 2 || v.Recv.Ended {
		t.Errorf("P18.7: %+v", v)
	}
}

// A stream of two ways ends when both parts are done, in either order; till then its end is told as often as it is asked for.
func TestReadToTheEnd(t *testing.T) {
	s := met(t, api.Server, small(), small())
	takes(t, "P18.7", s, piece(0, 0, "ab."))
	reads(t, "P18.7", s, 0, 9, "ab.")
	open(t, "Words", s, 0)
	reads(t, "P18.7: once more", s, 0, 9, ".")
	takes(t, "P18.7: late", s, piece(0, 1, "b."))
	reads(t, "P18.7: once more", s, 0, 0, ".")
	ins(t, "P18.7", s, 100, 2, 2)
	if v := view(t, "P18.7", s, 0); !v.Recv.Ended {
		t.Errorf("P18.7: %+v", v)
	}
	ends(t, "P18.5", s, 0)
	f := tells(t, "P18.11", s, piece(0, 0, "."))
	open(t, "Words", s, 0)
	s.Acked(kept(f))
	open(t, "Words: ended", s)
	unchanged(t, "P18.7", s, func() { notRead(t, "P18.7", s, 0, api.ErrStreamsID) })

	s = met(t, api.Server, small(), small())
	takes(t, "P18.7", s, piece(0, 0, "ab."))
	is(t, "P18.6", s, api.OK, func() api.Errno { return s.Reset(0, 1) })
	s.Acked(tells(t, "P18.6", s, reset(0, 1, 0)))
	reads(t, "P18.7", s, 0, 1, "a")
	open(t, "Words", s, 0)
	reads(t, "P18.7", s, 0, 1, "b.")
	open(t, "Words: ended", s)
}

// A part that was reset is read no more: Read tells that, and so it is done.
func TestReadOfReset(t *testing.T) {
	s := met(t, api.Client, small(), small())
	takes(t, "P18.7", s, piece(3, 0, "ab"), reset(3, 5, 4))
	open(t, "P18.7: not read", s, 3)
	if b, end, err := s.Read(3, 0); len(b) != 0 || end || err != api.ErrOver {
		t.Errorf("P18.7: %q, %v, %d", b, end, err)
	}
	open(t, "Words: ended", s)
	unchanged(t, "P18.7", s, func() { notRead(t, "P18.7", s, 3, api.ErrStreamsID) })
	ins(t, "P18.10", s, 100, 4, 4)

	// Of two ways: it is open still, and Read tells it each time.
	takes(t, "P18.7", s, reset(1, 5, 4))
	notRead(t, "P18.7", s, 1, api.ErrOver)
	open(t, "P18.7", s, 1)
	is(t, "P18.6", s, api.OK, func() api.Errno { return s.Reset(1, 1) })
	tells(t, "P18.11", s, reset(1, 1, 0))
	open(t, "Words", s, 1)
	s.Acked(reset(1, 1, 0))
	open(t, "Words: ended", s)
}

// That a stream was reset ends it only when Read has told it.
func TestResetIsReadLast(t *testing.T) {
	s := met(t, api.Client, small(), small())
	opens(t, "Words", s, false, 0)
	ends(t, "Words", s, 0)
	s.Acked(kept(tells(t, "Words", s, piece(0, 0, "."))))
	takes(t, "Words", s, reset(0, 5, 4))
	open(t, "Words", s, 0)
	if _, _, err := s.Read(0, 9); err != api.ErrOver {
		t.Errorf("P18.7: %d", err)
	}
	open(t, "Words: ended", s)
}

// Stop: its refusals in their order.
func TestStop(t *testing.T) {
	for _, code := range []int64{0, 1, 77, api.MaxNumber} {
		s := met(t, api.Client, small(), small())
		takes(t, "P18.8", s, piece(3, 0, "abc"))
		for _, no := range wrong {
			is(t, "P18.8", s, api.ErrArg, func() api.Errno { return s.Stop(3, no) })
		}
		quiet(t, "P18.8", s)
		is(t, "P18.8", s, api.OK, func() api.Errno { return s.Stop(3, code) })
		is(t, "P18.8: twice", s, api.ErrOver, func() api.Errno { return s.Stop(3, code) })
		for _, no := range wrong {
			is(t, "P18.8: ErrArg is first", s, api.ErrArg, func() api.Errno { return s.Stop(3, no) })
		}
		tells(t, "P18.8", s, stop(3, code))
		quiet(t, "P18.8", s)
		is(t, "P18.8: told", s, api.ErrOver, func() api.Errno { return s.Stop(3, 0) })
		takes(t, "P18.8: more may come", s, piece(3, 3, "de"))
		reads(t, "P18.8: what has come may be read", s, 3, 9, "abcde")
	}
}

// What was reset, or whose final size is known, isn't stopped.
func TestStopTooLate(t *testing.T) {
	s := met(t, api.Client, small(), small())
	takes(t, "P18.8", s, piece(3, 2, "c."))
	is(t, "P18.8: the final size is known", s, api.ErrOver, func() api.Errno { return s.Stop(3, 1) })
	takes(t, "P18.8", s, reset(1, 5, 4))
	is(t, "P18.8: reset", s, api.ErrOver, func() api.Errno { return s.Stop(1, 1) })
	is(t, "P18.8: ErrArg is first", s, api.ErrArg, func() api.Errno { return s.Stop(1, -1) })
	notRead(t, "P18.7", s, 1, api.ErrOver)
	is(t, "P18.8: done", s, api.ErrOver, func() api.Errno { return s.Stop(1, 1) })
	quiet(t, "P18.8", s)
}

// Rank: 0 to 7, of streams with a sending part.
func TestRank(t *testing.T) {
	s := varied(t)
	for _, id := range []int64{0, 1, 2} {
		for _, urgency := range []int{0, 7, 3, 5} {
			is(t, "P18.9", s, api.OK, func() api.Errno { return s.Rank(id, urgency) })
			if v := view(t, "P18.9", s, id); v.Urgency != urgency {
				t.Errorf("P18.9: Rank(%d, %d): %d", id, urgency, v.Urgency)
			}
		}
		for _, urgency := range []int{8, 9, -1, math.MinInt, math.MaxInt} {
			is(t, "P18.9", s, api.ErrArg, func() api.Errno { return s.Rank(id, urgency) })
		}
	}
	if v := view(t, "P18.9", s, 3); v.Urgency != 3 {
		t.Errorf("P18.10: one of one way: %d", v.Urgency)
	}
	// Also of one that is reset, or Done.
	is(t, "P18.6", s, api.OK, func() api.Errno { return s.Reset(0, 1) })
	is(t, "P18.9", s, api.OK, func() api.Errno { return s.Rank(0, 7) })
	is(t, "P18.9", s, api.ErrArg, func() api.Errno { return s.Rank(0, 8) })
}
