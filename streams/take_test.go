package streams

import (
	"math"
	"strings"
	"testing"

	"portage/api"
)

// 1: what is no frame.
func TestTakeNoFrame(t *testing.T) {
	s := varied(t)
	for _, f := range []api.Frame{
		{Kind: 3}, {Kind: 99}, {Kind: -1}, {Kind: math.MinInt}, {Kind: 0x09}, {Kind: 0x13},
		{Kind: api.KPing, Limit: 1}, {Kind: api.KPadding}, {Kind: api.KAck},
		maxStreams(false, mostStreams+1), maxStreams(true, mostStreams+1), maxStreams(false, -1),
		streamsBlocked(false, mostStreams+1), streamsBlocked(true, -1),
		maxData(-1), maxData(api.MaxNumber + 1), dataBlocked(-1), dataBlocked(math.MaxInt64),
		maxStreamData(-1, 5), maxStreamData(0, -1), maxStreamData(0, api.MaxNumber+1), maxStreamData(math.MinInt64, 5),
		streamDataBlocked(-1, 5), streamDataBlocked(0, -1), streamDataBlocked(api.MaxNumber+1, 5),
		stop(-1, 1), stop(0, -1), stop(0, api.MaxNumber+1), stop(api.MaxNumber+1, 1),
		reset(-1, 1, 1), reset(0, -1, 1), reset(0, 1, -1), reset(0, 1, api.MaxNumber+1), reset(0, api.MaxNumber+1, 1),
		piece(-1, 0, "a"), piece(math.MaxInt64, 0, "a"), piece(0, -1, "a"), piece(0, api.MaxNumber, "a"), piece(0, math.MaxInt64, "a"),
		{Kind: api.KStream, Size: 1}, {Kind: api.KStream, Uni: true}, {Kind: api.KMaxData, Stream: 1}, {Kind: api.KStop, Fin: true},
		{Kind: api.KReset, Data: []byte("a")}, {Kind: api.KMaxData, Runs: []api.Run{{Lo: 1, Hi: 1}}},
	} {
		faults(t, "P18.10, 1", s, f, api.CodeFrame)
	}
}

// 2: frames that are none of streams; one that may not be is no frame, whatever its kind.
func TestTakeOtherKinds(t *testing.T) {
	s := varied(t)
	for _, f := range []api.Frame{
		{Kind: api.KPadding, Size: 1}, {Kind: api.KPing}, {Kind: api.KAck, Runs: []api.Run{{Lo: 0, Hi: 3}}},
		{Kind: api.KCrypto, Data: []byte("a")}, {Kind: api.KChallenge, Data: []byte("12345678")},
		{Kind: api.KResponse, Data: []byte("12345678")}, {Kind: api.KClose}, {Kind: api.KClose, Own: true, Code: 5}, {Kind: api.KDone},
	} {
		faults(t, "P18.10, 2", s, f, api.CodeProtocol)
	}
}

// 3: frames about the connection.
func TestTakeOfTheConnection(t *testing.T) {
	s := met(t, api.Client, small(), small())
	takes(t, "P18.10, 3", s, maxData(101))
	outs(t, "P18.10, 3", s, 101, 0, -1)
	unchanged(t, "P18.10, 3: no more than it was", s, func() { takes(t, "P18.10, 3", s, maxData(101), maxData(100), maxData(0)) })
	takes(t, "P18.10, 3", s, maxData(api.MaxNumber))
	outs(t, "P18.10, 3", s, api.MaxNumber, 0, -1)
	for _, uni := range []bool{false, true} {
		opens(t, "P18.3", s, uni, 2*int64(kindIf(uni)))
		unchanged(t, "P18.10, 3: no more than it was", s, func() { takes(t, "P18.10, 3", s, maxStreams(uni, 1), maxStreams(uni, 0)) })
		takes(t, "P18.10, 3", s, maxStreams(uni, 2))
		opens(t, "P18.10, 3", s, uni, 4+2*int64(kindIf(uni)))
		full(t, "P18.10, 3", s, uni)
		takes(t, "P18.10, 3", s, maxStreams(uni, mostStreams))
		opens(t, "P18.10, 3", s, uni, 8+2*int64(kindIf(uni)))
	}
	unchanged(t, "P18.10, 3", s, func() {
		takes(t, "P18.10, 3", s, dataBlocked(0), dataBlocked(100), dataBlocked(api.MaxNumber),
			streamsBlocked(false, 0), streamsBlocked(true, 1), streamsBlocked(true, mostStreams))
	})
}

// about lists a frame of each kind that speaks of a stream: of its receiving part, then of its sending part.
func about(id int64) (receiving, sending []api.Frame) {
	return []api.Frame{piece(id, 0, ""), piece(id, 0, "ab"), reset(id, 1, 0), streamDataBlocked(id, 5)},
		[]api.Frame{stop(id, 1), maxStreamData(id, 50)}
}

// 4: a stream that has no such part, or one of ours that was not opened: ahead of all else.
func TestTakeState(t *testing.T) {
	for _, role := range []int{api.Client, api.Server} {
		us, them := int64(role), int64(1-role)
		s := met(t, role, small(), sized(9, 9, 3))
		opens(t, "P18.3", s, false, us)
		opens(t, "P18.3", s, true, us+2)
		takes(t, "P18.10", s, piece(them+2, 0, ""))
		state := func(l []api.Frame) {
			t.Helper()
			for _, f := range l {
				faults(t, "P18.10, 4", s, f, api.CodeState)
			}
		}
		for _, place := range []int64{0, 1, 2, 7, mostStreams - 1} {
			receiving, _ := about(4*place + us + 2)
			state(receiving)
			// Also of those that are beyond our limit: CodeState is first.
			_, sending := about(4*place + them + 2)
			state(sending)
		}
		for _, place := range []int64{1, 2, 7, mostStreams - 1} {
			receiving, sending := about(4*place + us)
			state(receiving)
			state(sending)
			_, sending = about(4*place + us + 2)
			state(sending)
		}
		open(t, "P18.10, 4", s, min(us, them+2), max(us, min(us+2, them+2)), max(us+2, them+2))
	}
}

// 4: of theirs none beyond our limit, of each kind.
func TestTakeStreams(t *testing.T) {
	for _, role := range []int{api.Client, api.Server} {
		them := int64(1 - role)
		s := met(t, role, api.Params{Data: 9, StreamHis: 9, StreamUni: 9, Bidi: 2, Uni: 3}, ample())
		for _, place := range []int64{2, 3, 99, mostStreams - 1} {
			receiving, sending := about(4*place + them)
			for _, f := range append(receiving, sending...) {
				faults(t, "P18.10, 4", s, f, api.CodeStreams)
			}
			receiving, _ = about(4*min(place+1, mostStreams-1) + them + 2)
			for _, f := range receiving {
				faults(t, "P18.10, 4", s, f, api.CodeStreams)
			}
		}
		takes(t, "P18.10, 4", s, piece(them+4, 0, ""), piece(them+10, 0, ""))
		accepts(t, "P18.10, 4", s, them, them+4, them+2, them+6, them+10)
	}
	// With limits of 0 none may be.
	s := met(t, api.Client, sized(9, 9, 0), ample())
	for _, id := range []int64{1, 3} {
		receiving, _ := about(id)
		for _, f := range receiving {
			faults(t, "P18.10, 4", s, f, api.CodeStreams)
		}
	}
}

// 4: each kind of frame opens a stream of theirs, and those of lower places; their urgency is 3.
func TestTakeOpens(t *testing.T) {
	for _, base := range []int64{1, 3} {
		receiving, sending := about(base + 8)
		if base == 3 {
			sending = nil
		}
		for _, f := range append(receiving, sending...) {
			s := met(t, api.Client, ample(), ample())
			takes(t, "P18.10, 4", s, f)
			open(t, "P18.10, 4", s, base, base+4, base+8)
			accepts(t, "P18.10, 4", s, base, base+4, base+8)
			for _, id := range s.IDs() {
				if v := view(t, "P18.10, 4", s, id); v.Urgency != 3 {
					t.Errorf("P18.10, 4: the urgency is %d", v.Urgency)
				}
			}
		}
	}
}

// With another code than CodeNone the streams are open all the same, and nothing else has changed.
func TestTakeOpensAndFaults(t *testing.T) {
	for _, f := range []api.Frame{
		piece(5, 20, "a"), piece(5, 0, strings.Repeat("x", 21)), reset(5, 3, 21), reset(5, 3, 1000), piece(5, api.MaxNumber-1, "a"),
	} {
		s := met(t, api.Client, sized(100, 20, 2), ample())
		if code := s.Take(f); code != api.CodeFlow {
			t.Errorf("P18.10, 6: Take(%+v) = %d", f, code)
		}
		twin := met(t, api.Client, sized(100, 20, 2), ample())
		takes(t, "P18.10, 5", twin, streamDataBlocked(5, 0))
		if got, want := picture(s), picture(twin); got != want {
			t.Errorf("P18.10: but for the open streams it has changed: %s", differs(got, want))
		}
		accepts(t, "P18.10, 4", s, 1, 5)
		faults(t, "P18.10: calls go on", s, f, api.CodeFlow)
		takes(t, "P18.10: calls go on", s, piece(5, 0, "a"))
		reads(t, "P18.10: calls go on", s, 5, 9, "a")
	}
}

// 4: what has ended is spoken of late: nothing comes of it.
func TestTakeOfEnded(t *testing.T) {
	s := met(t, api.Client, small(), ample())
	opens(t, "P18.3", s, false, 0)
	opens(t, "P18.3", s, true, 2)
	takes(t, "P18.10", s, piece(0, 0, "ab."), piece(3, 0, "."), piece(1, 0, "."))
	reads(t, "P18.7", s, 0, 9, "ab.")
	reads(t, "P18.7", s, 1, 9, ".")
	reads(t, "P18.7", s, 3, 9, ".")
	for _, id := range []int64{0, 1, 2} {
		ends(t, "P18.5", s, id)
	}
	for _, f := range all(s) {
		s.Acked(kept(f))
	}
	open(t, "Words", s)
	for _, id := range []int64{0, 1, 2, 3} {
		receiving, sending := about(id)
		if id == 2 {
			receiving = nil
		}
		if id == 3 {
			sending = nil
		}
		for _, f := range append(receiving, sending...) {
			faults(t, "P18.10, 4: late", s, f, api.CodeNone)
		}
		// Not even what would be wrong, were it open.
		if id != 2 {
			faults(t, "P18.10, 4: late", s, piece(id, 5, "xxxxxxxxxxxxxxxxxxxxxxxxxx"), api.CodeNone)
			faults(t, "P18.10, 4: late", s, piece(id, 1, "."), api.CodeNone)
			faults(t, "P18.10, 4: late", s, reset(id, 5, 1000), api.CodeNone)
		}
	}
	faults(t, "P18.10, 4: it has no such part", s, piece(2, 0, ""), api.CodeState)
	faults(t, "P18.10, 4: it has no such part", s, stop(3, 0), api.CodeState)
	// For each of theirs that has ended one more may be.
	takes(t, "P18.10, 4", s, piece(5, 0, ""), piece(7, 0, ""))
	faults(t, "P18.10, 4", s, piece(9, 0, ""), api.CodeStreams)
	faults(t, "P18.10, 4", s, piece(11, 0, ""), api.CodeStreams)
}

// 5: what raises a stream's Out, and what tells of being blocked.
func TestTakeMaxStreamData(t *testing.T) {
	s := varied(t)
	for _, id := range []int64{0, 1, 2} {
		takes(t, "P18.10, 5", s, maxStreamData(id, 101))
		unchanged(t, "P18.10, 5", s, func() { takes(t, "P18.10, 5", s, maxStreamData(id, 101), maxStreamData(id, 100), maxStreamData(id, 0)) })
		if v := view(t, "P18.10, 5", s, id); v.Out != (api.OutView{Limit: 101, Told: -1}) {
			t.Errorf("P18.10, 5: %+v", v.Out)
		}
	}
	outs(t, "P18.10, 5: the connection's stays", s, 1000, 0, -1)
	takes(t, "P18.10, 5", s, maxStreamData(2, api.MaxNumber))
	if v := view(t, "P18.10, 5", s, 2); v.Out.Limit != api.MaxNumber {
		t.Errorf("P18.10, 5: %+v", v.Out)
	}
	unchanged(t, "P18.10, 5", s, func() {
		takes(t, "P18.10, 5", s, streamDataBlocked(0, 0), streamDataBlocked(1, 100), streamDataBlocked(3, api.MaxNumber))
	})
}

// 5: a KStop resets the sending part, but one that is reset or Done.
func TestTakeStop(t *testing.T) {
	s := varied(t)
	for i, id := range []int64{0, 1, 2} {
		writes(t, "P18.10, 5", s, id, "abc")
		code := []int64{0, 7, api.MaxNumber}[i]
		f := piece(id, 0, "abc")
		tells(t, "P18.10, 5", s, f)
		takes(t, "P18.10, 5", s, stop(id, code))
		if v := view(t, "P18.10, 5", s, id); !v.ResetSent || !v.Send.Stopped || v.Code != 0 {
			t.Errorf("P18.10, 5: %+v", v)
		}
		faults(t, "P18.10, 5: twice", s, stop(id, 9), api.CodeNone)
		is(t, "P18.6", s, api.ErrOver, func() api.Errno { return s.Reset(id, 0) })
		f = tells(t, "P18.10, 5", s, reset(id, code, 3))
		faults(t, "P18.10, 5: told", s, stop(id, 9), api.CodeNone)
		s.Acked(f)
		faults(t, "P18.10, 5: acknowledged", s, stop(id, 9), api.CodeNone)
		quiet(t, "P18.10, 5", s)
	}
	open(t, "Words", s, 0, 1, 3)

	s = varied(t)
	is(t, "P18.6", s, api.OK, func() api.Errno { return s.Reset(0, 4) })
	faults(t, "P18.10, 5: reset already", s, stop(0, 9), api.CodeNone)
	tells(t, "P18.10, 5", s, reset(0, 4, 0))
	ends(t, "P18.5", s, 1)
	s.Acked(kept(tells(t, "P18.11", s, piece(1, 0, "."))))
	faults(t, "P18.10, 5: Done", s, stop(1, 9), api.CodeNone)
	quiet(t, "P18.10, 5", s)
}

// 6: the rise, of both Ins.
func TestTakeRise(t *testing.T) {
	s := met(t, api.Client, sized(30, 20, 2), small())
	takes(t, "P18.10, 6", s, piece(1, 4, "ef"))
	ins(t, "P18.10, 6", s, 30, 6, 0)
	takes(t, "P18.10, 6: below High", s, piece(1, 0, "abcd"), piece(1, 2, "xxxx"), piece(1, 6, ""))
	ins(t, "P18.10, 6", s, 30, 6, 0)
	takes(t, "P18.10, 6: partly", s, piece(1, 5, "fgh"))
	ins(t, "P18.10, 6", s, 30, 8, 0)
	takes(t, "P18.10, 6: without a byte", s, piece(1, 20, ""))
	ins(t, "P18.10, 6", s, 30, 20, 0)
	if v := view(t, "P18.10, 6", s, 1); v.In.Taken != 20 || v.Recv.High != 20 || v.Recv.Held != 8 {
		t.Errorf("P18.10, 6: %+v", v)
	}
	takes(t, "P18.10, 4", s, streamDataBlocked(5, 0), streamDataBlocked(3, 0))
	// 10 may come yet, on all streams.
	faults(t, "P18.10, 6", s, piece(5, 0, "01234567890"), api.CodeFlow)
	faults(t, "P18.10, 6", s, piece(5, 11, ""), api.CodeFlow)
	takes(t, "P18.10, 6", s, piece(5, 0, "0123456789"))
	ins(t, "P18.10, 6", s, 30, 30, 0)
	faults(t, "P18.10, 6", s, piece(3, 0, "x"), api.CodeFlow)
	faults(t, "P18.10, 6", s, reset(3, 1, 1), api.CodeFlow)
	takes(t, "P18.10, 6: nothing rises", s, piece(3, 0, ""), piece(1, 0, "abc"), reset(3, 1, 0))
	reads(t, "P18.7", s, 1, 99, "abcdefgh")
	reads(t, "P18.7", s, 5, 99, "0123456789")
}

// 6: beyond the stream's limit, though the connection lets it come; and the other way round.
func TestTakeFlow(t *testing.T) {
	s := met(t, api.Client, sized(100, 20, 2), small())
	takes(t, "P18.10, 4", s, streamDataBlocked(5, 0), streamDataBlocked(7, 0))
	for _, id := range []int64{1, 3} {
		faults(t, "P18.10, 6", s, piece(id, 20, "x"), api.CodeFlow)
		faults(t, "P18.10, 6", s, piece(id, 21, ""), api.CodeFlow)
		faults(t, "P18.10, 6", s, piece(id, 21, "."), api.CodeFlow)
		faults(t, "P18.10, 6", s, reset(id, 1, 21), api.CodeFlow)
		faults(t, "P18.10, 6", s, piece(id, api.MaxNumber, ""), api.CodeFlow)
		faults(t, "P18.10, 6", s, reset(id, 1, api.MaxNumber), api.CodeFlow)
		takes(t, "P18.10, 6: at the limit", s, piece(id, 19, "x"))
		faults(t, "P18.10, 6", s, piece(id, 19, "xy"), api.CodeFlow)
	}
	takes(t, "P18.10, 6: at the limit", s, piece(1, 20, "."), reset(3, 1, 20))

	s = met(t, api.Client, sized(10, 20, 2), small())
	takes(t, "P18.10, 6", s, piece(1, 0, "01234"), streamDataBlocked(5, 0))
	faults(t, "P18.10, 6: the connection's", s, piece(5, 0, "012345"), api.CodeFlow)
	faults(t, "P18.10, 6: the connection's", s, piece(1, 5, "012345"), api.CodeFlow)
	faults(t, "P18.10, 6: the connection's", s, reset(5, 1, 6), api.CodeFlow)
	takes(t, "P18.10, 6: the connection's", s, reset(5, 1, 5))
	faults(t, "P18.10, 6: the connection's", s, reset(1, 1, 6), api.CodeFlow)
	takes(t, "P18.10, 6: nothing rises", s, reset(1, 1, 5))
}

// 6: against the final size; CodeFlow is first.
func TestTakeFinal(t *testing.T) {
	s := met(t, api.Client, sized(30, 20, 2), small())
	takes(t, "P18.10, 6", s, piece(1, 0, "abc"), piece(1, 8, "ij."), piece(5, 0, "01234567890123456789"))
	faults(t, "P18.10, 6: the connection's credit is first", s, piece(1, 10, "k"), api.CodeFlow)
	faults(t, "P18.10, 6: the connection's credit is first", s, reset(1, 1, 11), api.CodeFlow)
	reads(t, "P18.7", s, 5, 99, "01234567890123456789")
	tells(t, "P18.11", s, maxData(50))
	for _, f := range []api.Frame{piece(1, 10, "k"), piece(1, 11, ""), piece(1, 9, "jk"), piece(1, 8, "i."), piece(1, 11, "."), reset(1, 1, 9), reset(1, 1, 11), reset(1, 1, 20)} {
		faults(t, "P18.10, 6", s, f, api.CodeFinal)
	}
	faults(t, "P18.10, 6: the stream's limit is first", s, piece(1, 20, "k"), api.CodeFlow)
	faults(t, "P18.10, 6: the stream's limit is first", s, reset(1, 1, 21), api.CodeFlow)
	faults(t, "P18.10, 6: the end is below High", s, piece(5, 19, "."), api.CodeFinal)
	faults(t, "P18.10, 6: the end is below High", s, reset(5, 1, 19), api.CodeFinal)
	takes(t, "P18.10, 6: the same end", s, piece(1, 9, "j."), piece(1, 10, "."), piece(1, 10, ""))
}

// 6: by a reset all that was not consumed is consumed: its credit comes back.
func TestTakeReset(t *testing.T) {
	s := met(t, api.Client, sized(20, 20, 2), small())
	takes(t, "P18.10, 6", s, piece(1, 0, "abc"), piece(1, 5, "fgh"))
	reads(t, "P18.7", s, 1, 2, "ab")
	ins(t, "P18.10, 6", s, 20, 8, 2)
	held(t, "P18.16", s, 4)
	quiet(t, "P18.11", s)
	takes(t, "P18.10, 6", s, reset(1, 6, 12))
	ins(t, "P18.10, 6", s, 20, 12, 12)
	held(t, "P18.16", s, 0)
	v := view(t, "P18.10, 6", s, 1)
	if v.In != (api.InView{Limit: 20, Taken: 12, Consumed: 12, Window: 20}) || v.Code != 6 || !v.Recv.Reset || v.Recv.Final != 12 || v.ResetSent {
		t.Errorf("P18.10, 6: %+v", v)
	}
	tells(t, "P18.11", s, maxData(32))
	quiet(t, "P18.11: the stream's own isn't told", s)
	// Bytes that come late change nothing; a reset neither, and its code isn't the one.
	faults(t, "P18.10, 6: late", s, piece(1, 0, "abcdefghijkl"), api.CodeNone)
	faults(t, "P18.10, 6: late", s, piece(1, 12, "."), api.CodeNone)
	faults(t, "P18.10, 6: twice", s, reset(1, 9, 12), api.CodeNone)
	faults(t, "P18.10, 6", s, reset(1, 9, 13), api.CodeFinal)
	faults(t, "P18.10, 6", s, piece(1, 11, "."), api.CodeFinal)
	notRead(t, "P18.7", s, 1, api.ErrOver)
}

// 6: a reset of a stream that was read to the end comes too late; one whose end has come, but wasn't read, it resets.
func TestTakeResetOfEnded(t *testing.T) {
	s := met(t, api.Client, sized(20, 20, 2), small())
	takes(t, "P18.10, 6", s, piece(1, 0, "abc."))
	reads(t, "P18.7", s, 1, 3, "abc.")
	faults(t, "P18.10, 6: it has ended", s, reset(1, 6, 3), api.CodeNone)
	faults(t, "P18.10, 6: it has ended", s, reset(1, 6, 4), api.CodeFinal)
	if v := view(t, "P18.10, 6", s, 1); v.Code != 0 || v.Recv.Reset {
		t.Errorf("P18.10, 6: %+v", v)
	}
	reads(t, "P18.7", s, 1, 3, ".")
	takes(t, "P18.10, 6", s, piece(5, 0, "abc."))
	reads(t, "P18.7", s, 5, 2, "ab")
	takes(t, "P18.10, 6", s, reset(5, 6, 3))
	ins(t, "P18.10, 6", s, 20, 6, 6)
	notRead(t, "P18.7", s, 5, api.ErrOver)
}

// A reset with code 0 is one too.
func TestTakeResetCodes(t *testing.T) {
	for _, code := range []int64{0, 1, api.MaxNumber} {
		s := met(t, api.Client, small(), small())
		takes(t, "P18.10, 6", s, reset(1, code, 0))
		if v := view(t, "P18.10, 6", s, 1); v.Code != code || !v.Recv.Reset {
			t.Errorf("P18.10, 6: %+v", v)
		}
		faults(t, "P18.10, 6: twice", s, reset(1, 5, 0), api.CodeNone)
		notRead(t, "P18.7", s, 1, api.ErrOver)
	}
}

// A frame with Tail is taken as any other.
func TestTakeTail(t *testing.T) {
	s := met(t, api.Client, small(), small())
	f := piece(3, 0, "ab.")
	f.Tail = true
	takes(t, "P18.10", s, f)
	reads(t, "P18.7", s, 3, 9, "ab.")
}

// A window of 0 lets a stream without a byte come.
func TestTakeNoWindow(t *testing.T) {
	s := met(t, api.Client, sized(0, 0, 2), small())
	takes(t, "P18.10", s, streamDataBlocked(1, 0))
	faults(t, "P18.10", s, piece(1, 0, "a"), api.CodeFlow)
	takes(t, "P18.10", s, piece(1, 0, "."), reset(5, 1, 0))
	reads(t, "P18.7", s, 1, 9, ".")
	notRead(t, "P18.7", s, 5, api.ErrOver)
	quiet(t, "P18.11", s)
}
