package streams

import (
	"strings"
	"testing"

	"portage/api"
	"portage/frame"
)

// The nine numbers, one behind the other.
func TestOrder(t *testing.T) {
	const say = "P18.11"
	s := met(t, api.Client, sized(40, 10, 3), sized(8, 4, 6))
	for range 4 {
		s.Open(false)
		s.Open(true)
	}
	takes(t, say, s, piece(5, 0, "."), piece(7, 0, "."), piece(9, 0, "0123456789"), piece(11, 0, "0123456789"), piece(12, 0, "0123456789"))
	// 9: pieces, up to what the connection lets go.
	for _, id := range []int64{0, 2, 4, 6} {
		writes(t, say, s, id, "abcde")
	}
	tells(t, say, s, piece(0, 0, "abcd"))
	tells(t, say, s, streamDataBlocked(0, 4))
	tells(t, say, s, piece(2, 0, "abcd"))
	// From here on all of them wait, the last first.
	s.Lost(api.Frame{Kind: api.KStream, Stream: 2, Offset: 1, Size: 2})
	writes(t, say, s, 8, "z")
	// 8
	s.ours[oneWay].opened, s.ours[twoWays].opened = 6, 6
	full(t, say, s, true)
	full(t, say, s, false)
	// 7: of 2, and again of 0; 6: the connection's.
	s.Lost(streamDataBlocked(0, 4))
	// 5: both kinds.
	reads(t, say, s, 7, 0, ".")
	reads(t, say, s, 5, 0, ".")
	ends(t, say, s, 5)
	s.sendingOf(5).part.Next(1, 0)
	s.Acked(api.Frame{Kind: api.KStream, Stream: 5, Fin: true})
	// 4 and 3: of 12, 11 and 9.
	reads(t, say, s, 12, 5, "01234")
	reads(t, say, s, 11, 9, "012345678")
	reads(t, say, s, 9, 6, "012345")
	// 2: of 3, 1, 4.
	for _, id := range []int64{4, 3, 1} {
		is(t, say, s, api.OK, func() api.Errno { return s.Stop(id, 20+id) })
	}
	// 1: of 12, and of 6.
	is(t, say, s, api.OK, func() api.Errno { return s.Reset(12, 7) })
	is(t, say, s, api.OK, func() api.Errno { return s.Reset(6, 8) })

	for _, f := range []api.Frame{
		reset(6, 8, 0), reset(12, 7, 0), stop(1, 21), stop(3, 23), stop(4, 24), maxData(60),
		maxStreamData(9, 16), maxStreamData(11, 19), maxStreamData(12, 15), maxStreams(false, 4), maxStreams(true, 4),
		dataBlocked(8), streamDataBlocked(0, 4), streamDataBlocked(2, 4), streamsBlocked(false, 6), streamsBlocked(true, 6), piece(2, 1, "bc"),
	} {
		tells(t, say, s, f)
	}
	quiet(t, say, s)
}

// A later number waits while an earlier one has no room: no other frame is looked for.
func TestNoRoomForTheFirst(t *testing.T) {
	s := met(t, api.Client, small(), small())
	opens(t, "P18.12", s, false, 0)
	opens(t, "P18.12", s, true, 2)
	writes(t, "P18.12", s, 0, "abc")
	is(t, "P18.6", s, api.OK, func() api.Errno { return s.Reset(2, 1000000) })
	// The reset has 7 bytes, the piece could have 4.
	for room := range 7 {
		unchanged(t, "P18.12", s, func() {
			if f, is := s.Next(room); is || !same(f, api.Frame{}) {
				t.Errorf("P18.12: Next(%d) = %+v", room, f)
			}
		})
	}
	tellsIn(t, "P18.12", s, 7, reset(2, 1000000, 0))
	tellsIn(t, "P18.12", s, 4, piece(0, 0, "a"))
}

// 1: told once, and again where it was lost; not once it was acknowledged.
func TestWaitingReset(t *testing.T) {
	s := met(t, api.Client, small(), small())
	opens(t, "P18.11, 1", s, false, 0)
	writes(t, "P18.11, 1", s, 0, "abcdef")
	f := tellsIn(t, "P18.11, 1", s, 7, piece(0, 0, "abcd"))
	s.Lost(kept(f))
	is(t, "P18.6", s, api.OK, func() api.Errno { return s.Reset(0, 5) })
	unchanged(t, "P18.15: not told yet", s, func() {
		s.Lost(reset(0, 5, 4))
		s.Acked(reset(0, 5, 4))
	})
	for range 3 {
		tells(t, "P18.11, 1", s, reset(0, 5, 4))
		quiet(t, "P18.11, 1: told", s)
		s.Lost(reset(0, 5, 4))
		unchanged(t, "P18.15: twice", s, func() { s.Lost(reset(0, 5, 4)) })
	}
	s.Acked(reset(0, 5, 4))
	quiet(t, "P18.14: not to be told any more, though it was lost", s)
	unchanged(t, "P18.15: acknowledged", s, func() {
		s.Lost(reset(0, 5, 4))
		s.Acked(reset(0, 5, 4))
	})
	takes(t, "Words", s, piece(0, 0, "."))
	reads(t, "Words", s, 0, 0, ".")
	open(t, "Words: ended", s)
}

// 2: not where it was reset, or its final size is known.
func TestWaitingStop(t *testing.T) {
	for _, f := range []api.Frame{piece(3, 5, "."), reset(3, 1, 5)} {
		s := met(t, api.Client, small(), small())
		takes(t, "P18.11, 2", s, piece(3, 0, "ab"))
		is(t, "P18.8", s, api.OK, func() api.Errno { return s.Stop(3, 9) })
		for range 2 {
			tells(t, "P18.11, 2", s, stop(3, 9))
			quiet(t, "P18.11, 2: told", s)
			unchanged(t, "P18.14", s, func() { s.Acked(stop(3, 9)) })
			s.Lost(stop(3, 9))
			unchanged(t, "P18.14, P18.15", s, func() {
				s.Lost(stop(3, 9))
				s.Acked(stop(3, 9))
			})
		}
		takes(t, "P18.11, 2", s, f)
		quiet(t, "P18.11, 2: it needn't be any more", s)

		s = met(t, api.Client, small(), small())
		takes(t, "P18.11, 2", s, piece(3, 0, "ab"))
		is(t, "P18.8", s, api.OK, func() api.Errno { return s.Stop(3, 9) })
		unchanged(t, "P18.15: not told yet", s, func() { s.Lost(stop(3, 9)) })
		takes(t, "P18.11, 2", s, f)
		quiet(t, "P18.11, 2: it needn't be told", s)
	}
	s := met(t, api.Client, small(), small())
	takes(t, "P18.15", s, piece(3, 0, "ab"))
	unchanged(t, "P18.15: never stopped", s, func() { s.Lost(stop(3, 9)) })
}

// 3: told when half a window was consumed; told again with the newest limit.
func TestWaitingMaxData(t *testing.T) {
	s := met(t, api.Client, sized(10, 100, 2), small())
	takes(t, "P18.11, 3", s, piece(1, 0, "0123"), piece(3, 0, "012345"))
	reads(t, "P18.7", s, 1, 4, "0123")
	quiet(t, "P18.11, 3: less than half", s)
	reads(t, "P18.7", s, 3, 1, "0")
	tells(t, "P18.11, 3", s, maxData(15))
	quiet(t, "P18.11, 3", s)
	ins(t, "P18.11, 3", s, 15, 10, 5)
	reads(t, "P18.7", s, 3, 1, "1")
	for _, other := range []int64{10, 14, 16, -1} {
		unchanged(t, "P18.15: another limit", s, func() { s.Lost(maxData(other)) })
	}
	s.Lost(maxData(15))
	tells(t, "P18.15: the newest", s, maxData(16))
	unchanged(t, "P18.15: overtaken", s, func() { s.Lost(maxData(15)) })
	unchanged(t, "P18.14", s, func() { s.Acked(maxData(16)) })
	s.Lost(maxData(16))
	tells(t, "P18.15: the same", s, maxData(16))
	takes(t, "P18.10", s, piece(3, 6, "abcdef"))
	faults(t, "P18.10", s, piece(3, 12, "x"), api.CodeFlow)
}

// 4: of a stream; its part takes up to the limit that was told, and it isn't told once the end is known.
func TestWaitingMaxStreamData(t *testing.T) {
	s := met(t, api.Client, sized(100, 4, 2), small())
	takes(t, "P18.11, 4", s, piece(3, 0, "0123"), piece(1, 0, "0123"))
	reads(t, "P18.7", s, 3, 1, "0")
	reads(t, "P18.7", s, 1, 3, "012")
	tells(t, "P18.11, 4", s, maxStreamData(1, 7))
	quiet(t, "P18.11, 4", s)
	v := view(t, "P18.11, 4", s, 1)
	if v.Recv.Limit != 7 || v.In != (api.InView{Limit: 7, Taken: 4, Consumed: 3, Window: 4}) {
		t.Errorf("P18.11, 4: %+v", v)
	}
	reads(t, "P18.7", s, 3, 1, "1")
	faults(t, "P18.11, 4: not told yet", s, piece(3, 4, "4"), api.CodeFlow)
	tells(t, "P18.11, 4", s, maxStreamData(3, 6))
	takes(t, "P18.11, 4: told", s, piece(3, 4, "45"), piece(1, 4, "456"))
	faults(t, "P18.11, 4", s, piece(3, 6, "6"), api.CodeFlow)
	faults(t, "P18.11, 4", s, piece(1, 7, "7"), api.CodeFlow)
	for _, other := range []api.Frame{maxStreamData(1, 4), maxStreamData(1, 6), maxStreamData(3, 7), maxStreamData(5, 7), maxStreamData(0, 7)} {
		unchanged(t, "P18.15: another limit", s, func() { s.Lost(other) })
	}
	s.Lost(maxStreamData(1, 7))
	reads(t, "P18.7", s, 1, 1, "3")
	tells(t, "P18.15: the newest", s, maxStreamData(1, 8))
	takes(t, "P18.15", s, piece(1, 7, "7"))
	unchanged(t, "P18.14", s, func() { s.Acked(maxStreamData(1, 8)) })
	s.Lost(maxStreamData(1, 8))
	takes(t, "P18.11, 4", s, piece(1, 8, "."))
	quiet(t, "P18.11, 4: the final size is known", s)
	s.Lost(maxStreamData(3, 6))
	takes(t, "P18.11, 4", s, reset(3, 1, 6))
	quiet(t, "P18.11, 4: reset", s)
}

// 5: one more for each of theirs that has ended, by kind; told again with the newest number.
func TestWaitingMaxStreams(t *testing.T) {
	for _, uni := range []bool{false, true} {
		s := met(t, api.Client, sized(100, 10, 3), small())
		base := 1 + 2*int64(kindIf(uni))
		takes(t, "P18.11, 5", s, piece(base+8, 0, ""))
		end := func(id int64) {
			t.Helper()
			takes(t, "P18.11, 5", s, piece(id, 0, "."))
			if !uni {
				is(t, "P18.6", s, api.OK, func() api.Errno { return s.Reset(id, 0) })
				s.Acked(tells(t, "P18.11, 1", s, reset(id, 0, 0)))
			}
			reads(t, "P18.7", s, id, 0, ".")
		}
		unchanged(t, "P18.15: our first limit", s, func() { s.Lost(maxStreams(uni, 3)) })
		end(base + 4)
		unchanged(t, "P18.15: our first limit", s, func() { s.Lost(maxStreams(uni, 3)) })
		unchanged(t, "P18.15: not told yet", s, func() { s.Lost(maxStreams(uni, 4)) })
		f := tells(t, "P18.11, 5", s, maxStreams(uni, 4))
		quiet(t, "P18.11, 5", s)
		for _, other := range []api.Frame{maxStreams(uni, 3), maxStreams(uni, 5), maxStreams(!uni, 4), maxStreams(!uni, 3), maxStreams(uni, -1)} {
			unchanged(t, "P18.15: another limit", s, func() { s.Lost(other) })
		}
		unchanged(t, "P18.14", s, func() { s.Acked(f) })
		s.Lost(f)
		tells(t, "P18.15: the same", s, maxStreams(uni, 4))
		s.Lost(f)
		s.Lost(f)
		end(base)
		tells(t, "P18.15: the newest", s, maxStreams(uni, 5))
		unchanged(t, "P18.15: overtaken", s, func() { s.Lost(f) })
		quiet(t, "P18.11, 5", s)
		takes(t, "P18.10", s, piece(base+16, 0, ""))
		end(base + 12)
		end(base + 16)
		tells(t, "P18.11, 5: two at once", s, maxStreams(uni, 7))
		quiet(t, "P18.11, 5", s)
	}
}

// 6: only where there is something to be sent; once a limit.
func TestWaitingDataBlocked(t *testing.T) {
	s := met(t, api.Client, small(), sized(4, 10, 2))
	opens(t, "P18.3", s, false, 0)
	writes(t, "P18.5", s, 0, "abcd")
	tells(t, "P18.12", s, piece(0, 0, "abcd"))
	quiet(t, "P18.11, 6: there is nothing more to send", s)
	writes(t, "P18.5", s, 0, "e")
	tells(t, "P18.11, 6", s, dataBlocked(4))
	quiet(t, "P18.11, 6", s)
	for _, other := range []int64{3, 5, -1} {
		unchanged(t, "P18.15: another limit", s, func() { s.Lost(dataBlocked(other)) })
	}
	unchanged(t, "P18.14", s, func() { s.Acked(dataBlocked(4)) })
	s.Lost(dataBlocked(4))
	tells(t, "P18.15", s, dataBlocked(4))
	s.Lost(dataBlocked(4))
	is(t, "P18.6", s, api.OK, func() api.Errno { return s.Reset(0, 1) })
	tells(t, "P18.11, 1", s, reset(0, 1, 4))
	quiet(t, "P18.11, 6: the part is stopped", s)
	opens(t, "P18.3", s, true, 2)
	ends(t, "P18.5", s, 2)
	tells(t, "P18.11: an end needs no credit", s, piece(2, 0, "."))
	takes(t, "P18.10", s, piece(1, 0, ""))
	writes(t, "P18.5", s, 1, "x")
	tells(t, "P18.11, 6: another part", s, dataBlocked(4))
	takes(t, "P18.10", s, maxData(5))
	s.Lost(dataBlocked(4))
	tells(t, "P18.12", s, piece(1, 0, "x"))
	writes(t, "P18.5", s, 1, "y")
	tells(t, "P18.11, 6: the newest limit", s, dataBlocked(5))
	unchanged(t, "P18.15: overtaken", s, func() { s.Lost(dataBlocked(4)) })
}

// 6: with a limit of 0 too, which is what there is ahead of Peer.
func TestBlockedAheadOfPeer(t *testing.T) {
	s := made(t, api.Client, small(), 50)
	full(t, "P18.3", s, true)
	takes(t, "P18.10", s, piece(1, 0, ""))
	writes(t, "P18.5", s, 1, "abc")
	tells(t, "P18.11, 6", s, dataBlocked(0))
	tells(t, "P18.11, 7", s, streamDataBlocked(1, 0))
	tells(t, "P18.11, 8", s, streamsBlocked(true, 0))
	quiet(t, "P18.11", s)
	s.Lost(dataBlocked(0))
	s.Lost(streamDataBlocked(1, 0))
	s.Lost(streamsBlocked(true, 0))
	s.Peer(api.Params{Data: 2})
	tells(t, "P18.11, 7", s, streamDataBlocked(1, 0))
	tells(t, "P18.11, 8", s, streamsBlocked(true, 0))
	quiet(t, "P18.11", s)
	s.Peer(api.Params{StreamOwn: 3})
	tells(t, "P18.12", s, piece(1, 0, "ab"))
	tells(t, "P18.11, 6", s, dataBlocked(2))
}

// 7: of a stream that has come to its own limit, and has bytes beyond it.
func TestWaitingStreamDataBlocked(t *testing.T) {
	s := met(t, api.Client, small(), sized(100, 4, 3))
	opens(t, "P18.3", s, false, 0)
	opens(t, "P18.3", s, true, 2)
	writes(t, "P18.5", s, 2, "abcd")
	tells(t, "P18.12", s, piece(2, 0, "abcd"))
	quiet(t, "P18.11, 7: there is nothing more to send", s)
	writes(t, "P18.5", s, 0, "abcdef")
	tells(t, "P18.12", s, piece(0, 0, "abcd"))
	writes(t, "P18.5", s, 2, "e")
	tells(t, "P18.11, 7", s, streamDataBlocked(0, 4))
	tells(t, "P18.11, 7", s, streamDataBlocked(2, 4))
	quiet(t, "P18.11, 7", s)
	for _, other := range []api.Frame{streamDataBlocked(0, 3), streamDataBlocked(1, 4), streamDataBlocked(4, 4), streamDataBlocked(-4, 4)} {
		unchanged(t, "P18.15", s, func() { s.Lost(other) })
	}
	unchanged(t, "P18.14", s, func() { s.Acked(streamDataBlocked(2, 4)) })
	s.Lost(streamDataBlocked(2, 4))
	tells(t, "P18.15", s, streamDataBlocked(2, 4))
	s.Lost(streamDataBlocked(0, 4))
	s.Lost(streamDataBlocked(2, 4))
	is(t, "P18.6", s, api.OK, func() api.Errno { return s.Reset(0, 1) })
	takes(t, "P18.10", s, maxStreamData(2, 5))
	tells(t, "P18.11, 1", s, reset(0, 1, 4))
	tells(t, "P18.11, 7: stopped; with room again", s, piece(2, 4, "e"))
	writes(t, "P18.5", s, 2, "f")
	tells(t, "P18.11, 7", s, streamDataBlocked(2, 5))
}

// 8: at the limit at which Open was refused, as long as that is their limit.
func TestWaitingStreamsBlocked(t *testing.T) {
	for _, uni := range []bool{false, true} {
		s := met(t, api.Client, small(), sized(100, 4, 1))
		s.Open(uni)
		quiet(t, "P18.11, 8: nobody was refused", s)
		full(t, "P18.3", s, uni)
		full(t, "P18.3", s, uni)
		f := tells(t, "P18.11, 8", s, streamsBlocked(uni, 1))
		quiet(t, "P18.11, 8", s)
		full(t, "P18.3", s, uni)
		quiet(t, "P18.11, 8: told already", s)
		for _, other := range []api.Frame{streamsBlocked(uni, 0), streamsBlocked(uni, 2), streamsBlocked(!uni, 1), streamsBlocked(uni, -1)} {
			unchanged(t, "P18.15", s, func() { s.Lost(other) })
		}
		unchanged(t, "P18.14", s, func() { s.Acked(f) })
		s.Lost(f)
		tells(t, "P18.15", s, streamsBlocked(uni, 1))
		s.Lost(f)
		takes(t, "P18.10", s, maxStreams(uni, 2))
		quiet(t, "P18.11, 8: it is their limit no more", s)
		s.Open(uni)
		quiet(t, "P18.11, 8", s)
		full(t, "P18.3", s, uni)
		tells(t, "P18.11, 8", s, streamsBlocked(uni, 2))
		unchanged(t, "P18.15: overtaken", s, func() { s.Lost(f) })
		full(t, "P18.3", s, uni)
		takes(t, "P18.10", s, maxStreams(uni, 3))
		s.Lost(streamsBlocked(uni, 2))
		quiet(t, "P18.11, 8", s)
		// Refused, and raised ahead of being told.
		s.Open(uni)
		full(t, "P18.3", s, uni)
		s.Peer(sized(0, 0, 4))
		quiet(t, "P18.11, 8", s)
	}
}

// 9: up to the lesser of both rooms; bytes that are told again use none.
func TestWaitingPiece(t *testing.T) {
	s := met(t, api.Client, small(), sized(7, 5, 2))
	opens(t, "P18.3", s, false, 0)
	opens(t, "P18.3", s, false, 4)
	writes(t, "P18.5", s, 0, "abcdefg")
	writes(t, "P18.5", s, 4, "ABC")
	one := tells(t, "P18.11, 9: the stream's", s, piece(0, 0, "abcde"))
	tells(t, "P18.11, 7", s, streamDataBlocked(0, 5))
	outs(t, "P18.12", s, 7, 5, -1)
	tells(t, "P18.11, 9: the connection's", s, piece(4, 0, "AB"))
	outs(t, "P18.12", s, 7, 7, -1)
	tells(t, "P18.11, 6", s, dataBlocked(7))
	quiet(t, "P18.11, 9", s)
	s.Lost(kept(one))
	two := tellsIn(t, "P18.12: told again", s, 5, piece(0, 0, "ab"))
	outs(t, "P18.12: they use no credit", s, 7, 7, 7)
	takes(t, "P18.10", s, maxStreamData(0, 9), maxData(9))
	tells(t, "P18.12: its turn", s, piece(4, 2, "C"))
	outs(t, "P18.12", s, 9, 8, 7)
	tells(t, "P18.12: what was lost is first", s, piece(0, 2, "cde"))
	outs(t, "P18.12", s, 9, 8, 7)
	tells(t, "P18.12", s, piece(0, 5, "f"))
	outs(t, "P18.12", s, 9, 9, 7)
	if v := view(t, "P18.12", s, 0); v.Out != (api.OutView{Limit: 9, Used: 6, Told: 5}) || v.Send.Sent != 6 {
		t.Errorf("P18.12: %+v", v)
	}
	s.Acked(kept(two))
	ends(t, "P18.5", s, 0)
	tells(t, "P18.11, 6", s, dataBlocked(9))
	quiet(t, "P18.11, 9: the end waits for the bytes", s)
	takes(t, "P18.10", s, maxData(99))
	tells(t, "P18.12", s, piece(0, 6, "g."))
	ends(t, "P18.5", s, 4)
	tells(t, "P18.12: without a byte", s, piece(4, 3, "."))
	outs(t, "P18.12", s, 99, 10, 9)
}

// The greatest piece with which the frame is no longer than room: at the lengths at which how many there are, the offset or the stream take more bytes.
func TestRooms(t *testing.T) {
	text := strings.Repeat("0123456789abcdef", 4096)
	own := sized(1<<20, 1<<20, 32)
	for _, places := range []int{1, 17} {
		for _, off := range []int{0, 1, 63, 64, 16383, 16384} {
			for _, size := range []int{1, 2, 62, 63, 64, 65, 66, 67, 16382, 16383, 16384, 16385, 16386, 16387, 16388, 16389, 40000} {
				s := made(t, api.Client, own, 65536)
				s.Peer(sized(1<<20, 1<<20, 32))
				id := int64(0)
				for range places {
					id, _ = s.Open(false)
				}
				writes(t, "P18.12", s, id, text[:off+size])
				if off > 0 {
					off, data, _, _ := s.sendingOf(id).part.Next(off, 1<<20)
					s.sendingOf(id).out.Use(off + int64(len(data)))
					s.out.Use(off + int64(len(data)))
				}
				for _, more := range []int{-70, -5, -4, -3, -2, -1, 0, 1, 70} {
					whole, _ := frame.Size(piece(id, int64(off), text[off:off+size]))
					checkRoom(t, s, id, off, text[off:off+size], whole+more)
				}
			}
		}
	}
}

// checkRoom holds a piece to the greatest that has room, and takes back that it was told.
func checkRoom(t *testing.T, s *Streams, id int64, off int, text string, room int) {
	t.Helper()
	want := len(text)
	for ; want > 0; want-- {
		if n, _ := frame.Size(piece(id, int64(off), text[:want])); n <= room {
			break
		}
	}
	ahead, use := s.out.View().Used, *s.sendingOf(id)
	part, out, all := *use.part, *use.out, *s.out
	f, is := s.Next(room)
	if is != (want > 0) || is && (len(f.Data) != want || f.Offset != int64(off) || string(f.Data) != text[:want]) {
		t.Errorf("P18.12: of %d bytes at %d of stream %d Next(%d) tells %d at %d, %v; want %d", len(text), off, id, room, len(f.Data), f.Offset, is, want)
	}
	if got := s.out.View().Used; got != ahead+int64(want) {
		t.Errorf("P18.12: %d were used, want %d", got-ahead, want)
	}
	*use.part, *use.out, *s.out = part, out, all
}

// A piece without a byte has room where its frame has.
func TestRoomOfTheEnd(t *testing.T) {
	s := met(t, api.Client, small(), small())
	opens(t, "P18.3", s, false, 0)
	ends(t, "P18.5", s, 0)
	tellsIn(t, "P18.12", s, 3, piece(0, 0, "."))
	opens(t, "P18.3", s, true, 2)
	writes(t, "P18.5", s, 2, "ab")
	tellsIn(t, "P18.12", s, 5, piece(2, 0, "ab"))
	ends(t, "P18.5", s, 2)
	tellsIn(t, "P18.12", s, 4, piece(2, 2, "."))
	s.Lost(api.Frame{Kind: api.KStream, Stream: 2, Offset: 1, Size: 1, Fin: true})
	tellsIn(t, "P18.12: with a byte it is longer", s, 5, piece(2, 1, "b."))
	// Cut, it has no fin.
	s.Lost(api.Frame{Kind: api.KStream, Stream: 2, Size: 2, Fin: true})
	tellsIn(t, "P18.12", s, 4, piece(2, 0, "a"))
	tellsIn(t, "P18.12", s, 5, piece(2, 1, "b."))
	quiet(t, "P18.12", s)
}

// Turns: the most urgent first; those of one urgency in turn, by their ids.
func TestTurns(t *testing.T) {
	s := met(t, api.Server, ample(), ample())
	for range 4 {
		s.Open(false)
	}
	takes(t, "P18.10", s, piece(0, 0, ""))
	for _, id := range []int64{0, 1, 5, 9, 13} {
		writes(t, "P18.5", s, id, "abcdefgh")
	}
	turn := func(say string, room int, want ...int64) {
		t.Helper()
		for _, id := range want {
			if f, is := s.Next(room); !is || f.Kind != api.KStream || f.Stream != id {
				t.Fatalf("%s: Next(%d) = %+v, %v, want stream %d", say, room, f, is, id)
			}
		}
	}
	turn("P18.12", 5, 0, 1, 5, 9, 13, 0, 1)
	s.Rank(13, 2)
	s.Rank(0, 7)
	turn("P18.12: the most urgent", 5, 13, 13, 13, 13, 13, 13)
	turn("P18.12: where it was", 5, 5, 9)
	// Each urgency has its own turn: 9 was told last at 3, 13 at 2.
	s.Rank(9, 2)
	s.Rank(13, 3)
	writes(t, "P18.5", s, 13, "ij")
	turn("P18.12: none is above 13", 5, 9, 9, 9, 9, 9)
	turn("P18.12: above 9", 5, 13)
	turn("P18.12: and round", 5, 1, 5, 13, 1, 5, 1, 5, 1, 5, 1, 5)
	turn("P18.12: the least urgent", 5, 0, 0, 0, 0, 0)
	quiet(t, "P18.12", s)
	// What is lost has its turn too.
	s.Lost(api.Frame{Kind: api.KStream, Stream: 1, Size: 4})
	s.Lost(api.Frame{Kind: api.KStream, Stream: 9, Size: 1})
	s.Lost(api.Frame{Kind: api.KStream, Stream: 13, Size: 2})
	turn("P18.12: lost", 4, 9, 13, 1)
	turn("P18.12: lost", 5, 13, 1, 1, 1)
	quiet(t, "P18.12", s)
}

// A stream that has no turn while it is blocked, or has nothing to send, is passed over.
func TestTurnsPassOver(t *testing.T) {
	s := met(t, api.Client, ample(), sized(100, 2, 4))
	for range 3 {
		s.Open(false)
	}
	s.Rank(4, 0)
	writes(t, "P18.5", s, 4, "abcd")
	writes(t, "P18.5", s, 8, "ef")
	tells(t, "P18.12", s, piece(4, 0, "ab"))
	tells(t, "P18.11, 7", s, streamDataBlocked(4, 2))
	tells(t, "P18.12: the more urgent one is blocked", s, piece(8, 0, "ef"))
	takes(t, "P18.10", s, maxStreamData(4, 9), maxStreamData(8, 9))
	writes(t, "P18.5", s, 8, "gh")
	tells(t, "P18.12", s, piece(4, 2, "cd"))
	tells(t, "P18.12", s, piece(8, 2, "gh"))
}

// Other frames take no turn.
func TestTurnsOfPiecesAlone(t *testing.T) {
	s := met(t, api.Client, ample(), sized(100, 5, 4))
	for range 3 {
		s.Open(false)
	}
	for _, id := range []int64{0, 4, 8} {
		writes(t, "P18.5", s, id, "abc")
	}
	tellsIn(t, "P18.12", s, 4, piece(0, 0, "a"))
	is(t, "P18.6", s, api.OK, func() api.Errno { return s.Reset(4, 1) })
	is(t, "P18.8", s, api.OK, func() api.Errno { return s.Stop(8, 1) })
	tells(t, "P18.11", s, reset(4, 1, 0))
	tells(t, "P18.11", s, stop(8, 1))
	tells(t, "P18.12", s, piece(8, 0, "abc"))
	tells(t, "P18.12", s, piece(0, 1, "bc"))
}

// Waits asks whether a frame waits that has room in 1200 bytes: all have.
func TestWaitsOfLongest(t *testing.T) {
	s := met(t, api.Client, small(), sized(api.MaxNumber, api.MaxNumber, mostStreams))
	s.ours[twoWays].opened = mostStreams - 1
	id := int64(api.MaxNumber - 3)
	opens(t, "P18.3", s, false, id)
	is(t, "P18.6", s, api.OK, func() api.Errno { return s.Reset(id, api.MaxNumber) })
	tellsIn(t, "P18.13", s, 18, reset(id, api.MaxNumber, 0))
	quiet(t, "P18.13", s)
}
