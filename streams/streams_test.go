package streams

import (
	"math"
	"strings"
	"testing"

	"portage/api"
)

func TestExamples(t *testing.T) {
	const say = "Examples"
	s := made(t, api.Client, small(), 50)
	s.Peer(small())
	opens(t, say, s, true, 2)
	full(t, say, s, true)
	opens(t, say, s, false, 0)
	text := "abcdefghijklmnopqrstuvwxyz0123"
	writes(t, say, s, 0, text)
	tells(t, say, s, streamsBlocked(true, 1))
	tellsIn(t, say, s, 20, piece(0, 0, text[:17]))
	tells(t, say, s, piece(0, 17, text[17:20]))
	tellsIn(t, say, s, 3, streamDataBlocked(0, 20))
	quiet(t, say, s)
	takes(t, say, s, maxStreamData(0, 25))
	tellsIn(t, say, s, 9, piece(0, 20, text[20:25]))
	takes(t, say, s, piece(1, 18, "ab"))
	accepts(t, say, s, 1)
	faults(t, say, s, piece(1, 20, "c"), api.CodeFlow)
	faults(t, say, s, piece(5, 0, "a"), api.CodeStreams)
	faults(t, say, s, piece(2, 0, "a"), api.CodeState)
	takes(t, say, s, reset(1, 7, 20))
	notRead(t, say, s, 1, api.ErrOver)
	ends(t, say, s, 1)
	tells(t, say, s, streamDataBlocked(0, 25))
	f := tells(t, say, s, piece(1, 0, "."))
	s.Acked(kept(f))
	open(t, say, s, 0, 2)
	takes(t, say, s, piece(1, 0, "a"))
	tells(t, say, s, maxStreams(false, 2))
	takes(t, say, s, piece(5, 0, "a"))
}

func TestNew(t *testing.T) {
	for _, role := range []int{api.Client, api.Server} {
		for _, capacity := range []int{1, 2, api.MaxBuffer} {
			for _, own := range []api.Params{{}, sized(0, 0, 0), sized(api.MaxWindow, api.MaxWindow, api.MaxStreams), small()} {
				s := made(t, role, own, capacity)
				open(t, "P18.1", s)
				held(t, "P18.1", s, 0)
				outs(t, "P18.1", s, 0, 0, -1)
				ins(t, "P18.1", s, own.Data, 0, 0)
				accepts(t, "P18.1", s)
				quiet(t, "P18.1", s)
			}
		}
	}
}

func TestNewRefuses(t *testing.T) {
	refused := func(role int, own api.Params, capacity int) {
		t.Helper()
		if s, err := New(role, own, capacity); s != nil || err != api.ErrArg {
			t.Errorf("P18.1: New(%d, %+v, %d) = %v, %d", role, own, capacity, s, err)
		}
	}
	for _, role := range []int{-1, 2, 3, math.MinInt, math.MaxInt} {
		refused(role, small(), 50)
	}
	for _, capacity := range []int{0, -1, api.MaxBuffer + 1, math.MinInt, math.MaxInt} {
		refused(api.Client, small(), capacity)
		refused(api.Server, small(), capacity)
	}
	windows := []func(p *api.Params) *int64{
		func(p *api.Params) *int64 { return &p.Data }, func(p *api.Params) *int64 { return &p.StreamOwn },
		func(p *api.Params) *int64 { return &p.StreamHis }, func(p *api.Params) *int64 { return &p.StreamUni },
	}
	numbers := []func(p *api.Params) *int64{func(p *api.Params) *int64 { return &p.Bidi }, func(p *api.Params) *int64 { return &p.Uni }}
	for _, x := range []struct {
		fields []func(p *api.Params) *int64
		most   int64
	}{{windows, api.MaxWindow}, {numbers, api.MaxStreams}} {
		for _, field := range x.fields {
			for _, role := range []int{api.Client, api.Server} {
				for _, v := range append([]int64{x.most + 1}, wrong...) {
					p := small()
					*field(&p) = v
					refused(role, p, 50)
				}
				for _, v := range []int64{0, 1, x.most} {
					p := small()
					*field(&p) = v
					made(t, role, p, 50)
				}
			}
		}
	}
}

// Own's other fields aren't looked at.
func TestNewLooksAtLimitsAlone(t *testing.T) {
	for _, v := range wrong {
		own := small()
		own.Idle, own.AckExp, own.AckDelay = v, int(v), v
		made(t, api.Client, own, 1)
	}
}

// Sending parts hold capacity bytes (P18.1), whoever opened the stream.
func TestCapacity(t *testing.T) {
	for _, capacity := range []int{1, 7, api.MaxBuffer} {
		s := made(t, api.Client, small(), capacity)
		s.Peer(small())
		opens(t, "P18.1", s, false, 0)
		opens(t, "P18.1", s, true, 2)
		takes(t, "P18.1", s, piece(1, 0, ""))
		for _, id := range []int64{0, 1, 2} {
			is(t, "P18.1", s, api.ErrFull, func() api.Errno { return s.Write(id, make([]byte, capacity+1)) })
			writes(t, "P18.1", s, id, strings.Repeat("x", capacity))
			is(t, "P18.1", s, api.ErrFull, func() api.Errno { return s.Write(id, []byte("y")) })
		}
		held(t, "P18.16", s, 3*int64(capacity))
	}
}

// The table of 'Words': which limit and which window each part has.
func TestLimitsOfParts(t *testing.T) {
	own := api.Params{Data: 11, StreamOwn: 12, StreamHis: 13, StreamUni: 14, Bidi: 2, Uni: 2}
	peer := api.Params{Data: 21, StreamOwn: 22, StreamHis: 23, StreamUni: 24, Bidi: 2, Uni: 2}
	for _, role := range []int{api.Client, api.Server} {
		s := met(t, role, own, peer)
		us, them := int64(role), int64(1-role)
		opens(t, "Words", s, false, us)
		opens(t, "Words", s, true, us+2)
		opens(t, "Words", s, false, us+4)
		opens(t, "Words", s, true, us+6)
		takes(t, "Words", s, piece(them, 0, ""), piece(them+2, 0, ""))
		for _, x := range []struct {
			id, out, in int64
		}{{us, 23, 12}, {us + 4, 23, 12}, {us + 2, 24, -1}, {us + 6, 24, -1}, {them, 22, 13}, {them + 2, -1, 14}} {
			v := view(t, "P18.16", s, x.id)
			want := api.StreamView{ID: x.id, Urgency: 3}
			if x.out >= 0 {
				want.Out = api.OutView{Limit: x.out, Told: -1}
			}
			if x.in >= 0 {
				want.In = api.InView{Limit: x.in, Window: x.in}
				want.Recv = api.RecvView{Limit: x.in, Final: -1}
			}
			sameView(t, "Words", v, want)
		}
		outs(t, "Words", s, 21, 0, -1)
		ins(t, "Words", s, 11, 0, 0)
		if _, in := s.Credit(); in.Window != 11 {
			t.Errorf("P18.16: the connection's window: %+v", in)
		}
	}
}

// Peer raises, and never lowers; open streams too.
func TestPeer(t *testing.T) {
	s := made(t, api.Client, ample(), 100)
	takes(t, "P18.2", s, piece(1, 0, ""))
	if v := view(t, "P18.2: ahead of Peer", s, 1); v.Out.Limit != 0 {
		t.Errorf("P18.2: ahead of Peer: %+v", v.Out)
	}
	full(t, "P18.2: ahead of Peer", s, false)
	full(t, "P18.2: ahead of Peer", s, true)
	limits := func(say string, data, own, his, uni int64) {
		t.Helper()
		outs(t, say, s, data, 0, -1)
		for id, want := range map[int64]int64{0: his, 1: own, 2: uni} {
			if v := view(t, say, s, id); v.Out.Limit != want {
				t.Errorf("%s: stream %d: %+v, want %d", say, id, v.Out, want)
			}
		}
	}
	s.Peer(api.Params{Data: 5, StreamOwn: 6, StreamHis: 7, StreamUni: 8, Bidi: 1, Uni: 1})
	opens(t, "P18.2", s, false, 0)
	opens(t, "P18.2", s, true, 2)
	limits("P18.2", 5, 6, 7, 8)
	// One by one, the others being less.
	s.Peer(api.Params{Data: 15, StreamOwn: -1, StreamHis: 6, StreamUni: math.MinInt64})
	limits("P18.2: Data", 15, 6, 7, 8)
	s.Peer(api.Params{StreamOwn: 16})
	limits("P18.2: StreamOwn", 15, 16, 7, 8)
	s.Peer(api.Params{StreamHis: 17})
	limits("P18.2: StreamHis", 15, 16, 17, 8)
	s.Peer(api.Params{StreamUni: 18})
	limits("P18.2: StreamUni", 15, 16, 17, 18)
	full(t, "P18.2", s, false)
	s.Peer(api.Params{Bidi: 2})
	opens(t, "P18.2: Bidi", s, false, 4)
	if v := view(t, "P18.2: one that is opened later", s, 4); v.Out.Limit != 17 {
		t.Errorf("P18.2: one that is opened later: %+v", v.Out)
	}
	full(t, "P18.2: Uni", s, true)
	s.Peer(api.Params{Uni: 2})
	opens(t, "P18.2: Uni", s, true, 6)
	if v := view(t, "P18.2: one that is opened later", s, 6); v.Out.Limit != 18 {
		t.Errorf("P18.2: one that is opened later: %+v", v.Out)
	}
	unchanged(t, "P18.2: told again", s, func() {
		s.Peer(api.Params{Data: 15, StreamOwn: 16, StreamHis: 17, StreamUni: 18, Bidi: 2, Uni: 2})
		s.Peer(api.Params{})
		s.Peer(sized(-1, -1, -1))
		s.Peer(sized(math.MinInt64, math.MinInt64, math.MinInt64))
	})
}

// What a frame has raised further than Peer does stays.
func TestPeerBehindFrames(t *testing.T) {
	s := met(t, api.Client, ample(), small())
	opens(t, "P18.2", s, false, 0)
	takes(t, "P18.2", s, maxData(300), maxStreamData(0, 40), maxStreams(false, 3))
	s.Peer(sized(200, 30, 2))
	outs(t, "P18.2", s, 300, 0, -1)
	opens(t, "P18.2", s, false, 4)
	opens(t, "P18.2", s, false, 8)
	full(t, "P18.2", s, false)
	for id, want := range map[int64]int64{0: 40, 4: 30, 8: 30} {
		if v := view(t, "P18.2", s, id); v.Out.Limit != want {
			t.Errorf("P18.2: stream %d: %+v, want %d", id, v.Out, want)
		}
	}
}

// Limits above MaxNumber count as that, numbers of streams above 2^60 as that.
func TestPeerAtTheTop(t *testing.T) {
	for _, top := range []int64{api.MaxNumber - 1, api.MaxNumber, api.MaxNumber + 1, math.MaxInt64} {
		s := met(t, api.Client, ample(), small())
		opens(t, "P18.2", s, false, 0)
		takes(t, "P18.2", s, piece(1, 0, ""))
		opens(t, "P18.2", s, true, 2)
		s.Peer(sized(top, top, top))
		want := min(top, api.MaxNumber)
		outs(t, "P18.2", s, want, 0, -1)
		opens(t, "P18.2", s, false, 4)
		opens(t, "P18.2", s, true, 6)
		takes(t, "P18.2", s, piece(5, 0, ""))
		for _, id := range []int64{0, 1, 2, 4, 5, 6} {
			if v := view(t, "P18.2", s, id); v.Out.Limit != want {
				t.Errorf("P18.2: %d: stream %d: %+v", top, id, v.Out)
			}
		}
		// All of it can be used.
		writes(t, "P18.2", s, 0, "abc")
		tells(t, "P18.2", s, piece(0, 0, "abc"))
	}
	for _, number := range []int64{mostStreams - 1, mostStreams, mostStreams + 1, api.MaxNumber, math.MaxInt64} {
		for _, uni := range []bool{false, true} {
			s := made(t, api.Server, ample(), 1)
			if uni {
				s.Peer(api.Params{Uni: number})
			} else {
				s.Peer(api.Params{Bidi: number})
			}
			if got := s.ours[kindIf(uni)].limit; got != min(number, mostStreams) {
				t.Errorf("P18.2: %d streams count as %d", number, got)
			}
			if got := s.ours[kindIf(!uni)].limit; got != 0 {
				t.Errorf("P18.2: of the other kind: %d", got)
			}
		}
	}
}

// The very last streams that may be: a KStreamsBlocked of 2^60 can be told.
func TestPeerMostStreams(t *testing.T) {
	for _, role := range []int{api.Client, api.Server} {
		for _, uni := range []bool{false, true} {
			s := met(t, role, small(), sized(9, 9, math.MaxInt64))
			s.ours[kindIf(uni)].opened = mostStreams - 1
			opens(t, "P18.3: the last place", s, uni, api.MaxNumber-3+int64(role)+2*int64(kindIf(uni)))
			full(t, "P18.3", s, uni)
			tells(t, "P18.11", s, streamsBlocked(uni, mostStreams))
			quiet(t, "P18.11", s)
		}
	}
}

// Open: by role and kind, rising; refused at their limit, which counts all that were ever opened.
func TestOpen(t *testing.T) {
	for _, role := range []int{api.Client, api.Server} {
		s := met(t, role, ample(), api.Params{Data: 10, StreamUni: 10, StreamHis: 10, Bidi: 2, Uni: 3})
		us := int64(role)
		opens(t, "P18.3", s, false, us)
		opens(t, "P18.3", s, true, us+2)
		opens(t, "P18.3", s, true, us+6)
		opens(t, "P18.3", s, false, us+4)
		full(t, "P18.3", s, false)
		opens(t, "P18.3", s, true, us+10)
		full(t, "P18.3", s, true)
		open(t, "P18.16", s, us, us+2, us+4, us+6, us+10)
		for _, id := range s.IDs() {
			if v := view(t, "P18.3", s, id); v.Urgency != 3 {
				t.Errorf("P18.3: the urgency is %d", v.Urgency)
			}
		}
		// One that has ended makes no room below their limit.
		tells(t, "P18.11", s, streamsBlocked(false, 2))
		tells(t, "P18.11", s, streamsBlocked(true, 3))
		ends(t, "P18.3", s, us+2)
		s.Acked(kept(tells(t, "P18.3", s, piece(us+2, 0, "."))))
		open(t, "P18.3", s, us, us+4, us+6, us+10)
		full(t, "P18.3", s, true)
		quiet(t, "P18.11: told already", s)
		takes(t, "P18.3", s, maxStreams(true, 4))
		full(t, "P18.3: the other kind's limit rose", s, false)
		opens(t, "P18.3", s, true, us+14)
		full(t, "P18.3", s, true)
		takes(t, "P18.3", s, maxStreams(false, 3))
		opens(t, "P18.3", s, false, us+8)
	}
}

// Of ours no more than MaxStreams of a kind are open, which isn't being blocked.
func TestOpenMaxStreams(t *testing.T) {
	for _, uni := range []bool{false, true} {
		s := met(t, api.Client, sized(99, 99, 32), sized(99, 99, 1000))
		for range api.MaxStreams {
			if _, err := s.Open(uni); err != api.OK {
				t.Fatalf("P18.3: %d", err)
			}
		}
		// Theirs and those of the other kind don't count.
		for place := range int64(api.MaxStreams) {
			takes(t, "P18.3", s, piece(4*place+1, 0, ""), piece(4*place+3, 0, ""))
		}
		unchanged(t, "P18.3: MaxStreams are open", s, func() { full(t, "P18.3: MaxStreams are open", s, uni) })
		opens(t, "P18.3: the other kind", s, !uni, 2*int64(kindIf(!uni)))
		quiet(t, "P18.11: it isn't blocked", s)
		// One ends, and one more may be opened.
		id := 4 + 2*int64(kindIf(uni))
		if !uni {
			takes(t, "P18.3", s, piece(id, 0, "."))
			reads(t, "P18.3", s, id, 1, ".")
			full(t, "P18.3: half of one has ended", s, uni)
		}
		ends(t, "P18.3", s, id)
		s.Acked(kept(tells(t, "P18.3", s, piece(id, 0, "."))))
		opens(t, "P18.3", s, uni, 4*api.MaxStreams+2*int64(kindIf(uni)))
		full(t, "P18.3", s, uni)
		quiet(t, "P18.11: it isn't blocked", s)
	}
}

// Where both apply, Open is blocked.
func TestOpenBlockedAndMaxStreams(t *testing.T) {
	s := met(t, api.Client, small(), sized(99, 99, api.MaxStreams))
	for range api.MaxStreams {
		s.Open(true)
	}
	full(t, "P18.3", s, true)
	tells(t, "P18.3: it is blocked", s, streamsBlocked(true, api.MaxStreams))
}

// Accept: in the order of opening, over both kinds, those of lower places ahead; each once.
func TestAccept(t *testing.T) {
	for _, role := range []int{api.Client, api.Server} {
		s := met(t, role, ample(), ample())
		them := int64(1 - role)
		opens(t, "P18.4", s, false, int64(role))
		accepts(t, "P18.4: ours aren't told", s)
		takes(t, "P18.4", s, piece(them+6, 0, "a"), piece(them+4, 0, "a"))
		takes(t, "P18.4: these are open", s, piece(them, 0, "a"), piece(them+2, 0, "b"))
		takes(t, "P18.4", s, piece(them+10, 0, "a"))
		if id, is := s.Accept(); id != them+2 || !is {
			t.Errorf("P18.4: %d, %v", id, is)
		}
		takes(t, "P18.4", s, piece(them+12, 0, "a"))
		accepts(t, "P18.4", s, them+6, them, them+4, them+10, them+8, them+12)
		takes(t, "P18.4", s, piece(them+14, 0, ""), piece(them+2, 0, "b"))
		accepts(t, "P18.4", s, them+14)
	}
}

// What has ended ahead of it Accept doesn't tell, nor one of two ways that is half done otherwise.
func TestAcceptOfEnded(t *testing.T) {
	s := met(t, api.Client, ample(), ample())
	takes(t, "P18.4", s, piece(3, 0, "ab."), piece(1, 0, "cd."), piece(7, 0, "ef."), piece(11, 0, "gh."))
	reads(t, "P18.4", s, 3, 9, "ab.")
	reads(t, "P18.4", s, 1, 9, "cd.")
	reads(t, "P18.4", s, 7, 9, "ef.")
	open(t, "P18.4", s, 1, 11)
	accepts(t, "P18.4", s, 1, 11)
	reads(t, "P18.4", s, 11, 9, "gh.")
	accepts(t, "P18.4", s)
}

// View of streams in all states; Held of all.
func TestViewAndHeld(t *testing.T) {
	s := met(t, api.Client, ample(), ample())
	opens(t, "P18.16", s, false, 0)
	writes(t, "P18.16", s, 0, "abcdef")
	held(t, "P18.16", s, 6)
	tellsIn(t, "P18.16", s, 7, piece(0, 0, "abcd"))
	takes(t, "P18.16", s, piece(0, 2, "xyz"))
	held(t, "P18.16", s, 9)
	s.Acked(api.Frame{Kind: api.KStream, Size: 2})
	s.Lost(api.Frame{Kind: api.KStream, Offset: 1, Size: 2})
	held(t, "P18.16", s, 7)
	sameView(t, "P18.16", view(t, "P18.16", s, 0), api.StreamView{
		Urgency: 3,
		Send:    api.SendView{Written: 6, Sent: 4, Base: 2, Acked: []api.Run{{Lo: 0, Hi: 1}}, Lost: []api.Run{{Lo: 2, Hi: 2}}},
		Recv:    api.RecvView{Limit: 100, High: 5, Final: -1, Held: 3, Runs: []api.Run{{Lo: 2, Hi: 4}}},
		Out:     api.OutView{Limit: 100, Used: 4, Told: -1},
		In:      api.InView{Limit: 100, Taken: 5, Window: 100},
	})
	is(t, "P18.9", s, api.OK, func() api.Errno { return s.Rank(0, 6) })
	is(t, "P18.6", s, api.OK, func() api.Errno { return s.Reset(0, 5) })
	held(t, "P18.16: a stopped part isn't counted", s, 3)
	takes(t, "P18.16", s, reset(0, 9, 7))
	held(t, "P18.16", s, 0)
	sameView(t, "P18.16", view(t, "P18.16", s, 0), api.StreamView{
		Urgency:   6,
		Send:      api.SendView{Written: 6, Sent: 4, Base: 2, Acked: []api.Run{{Lo: 0, Hi: 1}}, Stopped: true},
		Recv:      api.RecvView{Limit: 100, High: 7, Final: 7, Reset: true},
		Out:       api.OutView{Limit: 100, Used: 4, Told: -1},
		In:        api.InView{Limit: 100, Taken: 7, Consumed: 7, Window: 100},
		ResetSent: true,
		Code:      9,
	})
	takes(t, "P18.16", s, piece(3, 0, "12345"))
	opens(t, "P18.16", s, true, 2)
	writes(t, "P18.16", s, 2, "ab")
	held(t, "P18.16: of all", s, 7)
	outs(t, "P18.16", s, 1000, 4, -1)
	ins(t, "P18.16", s, 1000, 12, 7)
}

// There is no view of what isn't open.
func TestViewOfNone(t *testing.T) {
	s := met(t, api.Client, ample(), ample())
	opens(t, "P18.16", s, false, 0)
	takes(t, "P18.16", s, piece(3, 0, "."))
	reads(t, "P18.16", s, 3, 0, ".")
	for _, id := range append([]int64{1, 2, 3, 4, 7, api.MaxNumber}, wrong...) {
		unchanged(t, "P18.16", s, func() {
			if v, err := s.View(id); err != api.ErrStreamsID {
				t.Errorf("P18.16: View(%d) = %d", id, err)
			} else {
				sameView(t, "R2", v, api.StreamView{})
			}
		})
	}
}

// Asking changes nothing.
func TestAskingChangesNothing(t *testing.T) {
	s := met(t, api.Client, small(), small())
	opens(t, "P18.16", s, false, 0)
	full(t, "P18.16", s, false)
	writes(t, "P18.16", s, 0, "abcdefghijklmnopqrstuvwxyz")
	tellsIn(t, "P18.16", s, 1200, streamsBlocked(false, 1))
	tells(t, "P18.16", s, piece(0, 0, "abcdefghijklmnopqrst"))
	takes(t, "P18.16", s, piece(1, 3, "xyz"))
	unchanged(t, "P18.16", s, func() {
		for range 2 {
			s.IDs()
			s.View(0)
			s.View(1)
			s.Credit()
			s.Held()
			s.Waits()
		}
	})
}
