package hand

import (
	"fmt"
	"math"
	"strings"
	"testing"

	"portage/api"
)

// H1: a role that is none, terms that Check refuses.
func TestNewRefuses(t *testing.T) {
	bad := []api.Params{
		{Idle: -1}, {Idle: api.MaxSpan + 1}, {Data: -1}, {Data: api.MaxWindow + 1}, {StreamOwn: -1}, {StreamOwn: api.MaxWindow + 1},
		{StreamHis: -1}, {StreamHis: api.MaxWindow + 1}, {StreamUni: -1}, {StreamUni: api.MaxWindow + 1}, {Bidi: -1}, {Bidi: 33},
		{Uni: -1}, {Uni: 33}, {AckExp: -1}, {AckExp: 21}, {AckDelay: -1}, {AckDelay: 16383001}, {Data: math.MinInt64}, {Data: math.MaxInt64},
	}
	for _, role := range []int{math.MinInt, -1, 2, 3, 256, math.MaxInt} {
		for _, p := range append(bad, ours, plain, utmost, api.Params{}) {
			if h, err := New(role, p); h != nil || err != api.ErrArg {
				t.Errorf("H1: New(%d, %+v) = %v, %d", role, p, h, err)
			}
		}
	}
	for _, role := range []int{api.Client, api.Server} {
		for _, p := range bad {
			if h, err := New(role, p); h != nil || err != api.ErrArg {
				t.Errorf("H1: New(%d, %+v) = %v, %d", role, p, h, err)
			}
		}
	}
}

// H1: the client's HELLO is in its stream of Initial, nothing else is anywhere.
func TestNew(t *testing.T) {
	for _, x := range []struct {
		own  api.Params
		body string
	}{{plain, ""}, {ours, oursBytes}, {theirs, theirsBytes}, {utmost, utmostBytes}, {api.Params{}, "\x0a\x01\x00\x0b\x01\x00"}} {
		say := fmt.Sprintf("H1: %+v", x.own)
		c, s := made(t, api.Client, x.own), made(t, api.Server, x.own)
		stands(t, say, c, [api.Spaces]bool{true}, false, nil)
		stands(t, say, s, [api.Spaces]bool{true}, false, nil)
		holds(t, say, s, 0)
		holds(t, say, c, int64(2+len(x.body)))
		silent(t, say, s, api.Initial, api.Handshake, api.App)
		silent(t, say, c, api.Handshake, api.App)
		tells(t, say, c, api.Initial, 1200, 0, message(1, 1, len(x.body), x.body))
		silent(t, say, c, api.Initial, api.Handshake, api.App)
		// And as the server tells its own.
		takes(t, say, s, api.Initial, 0, helloBytes, api.CodeNone)
		tells(t, say, s, api.Handshake, 1200, 0, message(3, 1, len(x.body), x.body)+doneBytes)
	}
}

// H2: of a client, ahead of and behind each message.
func TestOpenOfClient(t *testing.T) {
	c := client(t)
	stands(t, "H2: at first", c, [api.Spaces]bool{true}, false, nil)
	takes(t, "H2", c, api.Initial, 0, answerBytes[:1], api.CodeNone)
	stands(t, "H2: with half an ANSWER", c, [api.Spaces]bool{true}, false, nil)
	takes(t, "H2", c, api.Initial, 1, answerBytes[1:], api.CodeNone)
	stands(t, "H2: with the ANSWER", c, [api.Spaces]bool{true, true}, false, nil)
	takes(t, "H2", c, api.Handshake, 0, termsBytes[:7], api.CodeNone)
	stands(t, "H2: without TERMS' last byte", c, [api.Spaces]bool{true, true}, false, nil)
	takes(t, "H2", c, api.Handshake, 7, termsBytes[7:], api.CodeNone)
	stands(t, "H2: with TERMS", c, [api.Spaces]bool{true, true}, false, &theirs)
	takes(t, "H2", c, api.Handshake, 8, doneBytes[:1], api.CodeNone)
	stands(t, "H2: with half a DONE", c, [api.Spaces]bool{true, true}, false, &theirs)
	silent(t, "H3: with half a DONE", c, api.Handshake)
	takes(t, "H2", c, api.Handshake, 9, doneBytes[1:], api.CodeNone)
	stands(t, "H2: with DONE", c, [api.Spaces]bool{true, true, true}, true, &theirs)
	tells(t, "H3: its own DONE", c, api.Handshake, 1200, 0, doneBytes)
	tells(t, "H3: its HELLO alone", c, api.Initial, 1200, 0, helloBytes)
	c.Drop(api.Initial)
	stands(t, "H2: without Initial", c, [api.Spaces]bool{false, true, true}, true, &theirs)
	c.Drop(api.Handshake)
	stands(t, "H2: without both", c, [api.Spaces]bool{false, false, true}, true, &theirs)
}

// H2: of a server.
func TestOpenOfServer(t *testing.T) {
	s := server(t)
	takes(t, "H2", s, api.Initial, 0, helloBytes[:5], api.CodeNone)
	stands(t, "H2: without HELLO's last byte", s, [api.Spaces]bool{true}, false, nil)
	silent(t, "H3: without HELLO's last byte", s, api.Initial, api.Handshake)
	takes(t, "H2", s, api.Initial, 5, helloBytes[5:], api.CodeNone)
	stands(t, "H2: with HELLO", s, [api.Spaces]bool{true, true}, false, &ours)
	tells(t, "H3: ANSWER", s, api.Initial, 1200, 0, answerBytes)
	tells(t, "H3: TERMS and DONE", s, api.Handshake, 1200, 0, termsBytes+doneBytes)
	stands(t, "H2: told", s, [api.Spaces]bool{true, true}, false, &ours)
	takes(t, "H2", s, api.Handshake, 0, doneBytes[:1], api.CodeNone)
	stands(t, "H2: with half a DONE", s, [api.Spaces]bool{true, true}, false, &ours)
	s.Drop(api.Initial)
	takes(t, "H2", s, api.Handshake, 1, doneBytes[1:], api.CodeNone)
	stands(t, "H2: with DONE", s, [api.Spaces]bool{false, true, true}, true, &ours)
	silent(t, "H3: a server's DONE lets nothing stand", s, api.Initial, api.Handshake, api.App)
	s.Drop(api.Handshake)
	stands(t, "H2: without both", s, [api.Spaces]bool{false, false, true}, true, &ours)
}

// H5: Drop, at each moment, of each space, once and twice.
func TestDrop(t *testing.T) {
	c := client(t)
	c.Drop(api.Initial)
	stands(t, "H5", c, [api.Spaces]bool{}, false, nil)
	silent(t, "H5: HELLO is nowhere", c, api.Initial)
	holds(t, "H5", c, 0)
	unchanged(t, "H5: what comes there", c, func() {
		takes(t, "H5", c, api.Initial, 0, answerBytes, api.CodeNone)
		takes(t, "H5", c, api.Initial, 0, "\x09", api.CodeNone)
		takes(t, "H5", c, api.Initial, math.MaxInt64, "far", api.CodeNone)
		c.Acked(api.Initial, kept(0, 6))
		c.Lost(api.Initial, kept(0, 6))
	})
	unchanged(t, "H5: twice", c, func() { c.Drop(api.Initial) })
	takes(t, "H3: a code is looked for first", c, api.Initial, -1, "", api.CodeProtocol)

	c = client(t)
	for _, space := range elsewhere {
		unchanged(t, "H5: of another space", c, func() { c.Drop(space) })
	}
	c.Drop(api.Handshake)
	stands(t, "H5", c, [api.Spaces]bool{true}, false, nil)
	takes(t, "H5", c, api.Initial, 0, answerBytes, api.CodeNone)
	stands(t, "H5: a space that is dropped doesn't come to be open", c, [api.Spaces]bool{true}, false, nil)
	unchanged(t, "H5: what comes there", c, func() { takes(t, "H5", c, api.Handshake, 0, termsBytes, api.CodeNone) })
	tells(t, "H5: the other one goes on", c, api.Initial, 1200, 0, helloBytes)

	c = answered(t)
	takes(t, "H5", c, api.Handshake, 0, termsBytes+doneBytes[:1], api.CodeNone)
	holds(t, "H7", c, 7)
	c.Drop(api.Handshake)
	stands(t, "H5: behind TERMS", c, [api.Spaces]bool{true}, false, &theirs)
	holds(t, "H7: of the other space alone", c, 6)
	takes(t, "H5", c, api.Handshake, 9, doneBytes[1:], api.CodeNone)
	stands(t, "H5: passed over", c, [api.Spaces]bool{true}, false, &theirs)
}

// H5: messages that would stand in the stream of a space that is dropped are nowhere, the others stand.
func TestDropAhead(t *testing.T) {
	s := server(t)
	s.Drop(api.Handshake)
	takes(t, "H5", s, api.Initial, 0, helloBytes, api.CodeNone)
	stands(t, "H5", s, [api.Spaces]bool{true}, false, &ours)
	silent(t, "H5", s, api.Handshake)
	holds(t, "H5", s, 2)
	tells(t, "H5", s, api.Initial, 1200, 0, answerBytes)

	s = server(t)
	takes(t, "H5", s, api.Initial, 0, helloBytes[:3], api.CodeNone)
	s.Drop(api.Initial)
	takes(t, "H5", s, api.Initial, 3, helloBytes[3:], api.CodeNone)
	stands(t, "H5: it never gets HELLO", s, [api.Spaces]bool{}, false, nil)
	silent(t, "H5", s, api.Initial, api.Handshake)

	s = greeted(t)
	s.Drop(api.Initial)
	silent(t, "H5: ANSWER is nowhere", s, api.Initial)
	tells(t, "H5", s, api.Handshake, 1200, 0, termsBytes+doneBytes)
	s.Lost(api.Handshake, kept(0, 10))
	s.Drop(api.Handshake)
	silent(t, "H5: lost bytes are nowhere", s, api.Handshake)
	holds(t, "H5", s, 0)
}

// H7: Held in each state.
func TestHeld(t *testing.T) {
	c := client(t)
	holds(t, "H7: HELLO", c, 6)
	c.Acked(api.Initial, kept(0, 6))
	holds(t, "H7: what was never told isn't acknowledged", c, 6)
	tells(t, "H7", c, api.Initial, 1200, 0, helloBytes)
	holds(t, "H7: under way", c, 6)
	c.Acked(api.Initial, kept(1, 2))
	holds(t, "H7: acknowledged, but not from the first on", c, 6)
	c.Acked(api.Initial, kept(0, 1))
	holds(t, "H7: from the first on", c, 3)
	c.Lost(api.Initial, kept(0, 6))
	holds(t, "H7: lost", c, 3)
	c.Acked(api.Initial, kept(0, 6))
	holds(t, "H7: all", c, 0)
	takes(t, "H7", c, api.Initial, 5, "xyz", api.CodeNone)
	holds(t, "H7: behind a gap", c, 3)
	takes(t, "H7: twice", c, api.Initial, 5, "xyz", api.CodeNone)
	holds(t, "H7: twice", c, 3)
	takes(t, "H7", c, api.Initial, 0, "\x02", api.CodeNone)
	holds(t, "H7: part of a message", c, 4)
	takes(t, "H7", c, api.Initial, 1, "\x00", api.CodeNone)
	holds(t, "H7: behind a message", c, 3)
	takes(t, "H7", c, api.Initial, 2, "\x02", api.CodeHand)
	holds(t, "H7: what is wrong is there", c, 4)
	takes(t, "H7", c, api.Initial, 3, "ab", api.CodeHand)
	holds(t, "H7: all that came", c, 6)
	takes(t, "H7: passed over", c, api.Handshake, 0, "", api.CodeNone)
	takes(t, "H7", c, api.Handshake, 0, termsBytes+doneBytes, api.CodeNone)
	holds(t, "H7: its DONE", c, 8)
	tells(t, "H7", c, api.Handshake, 1200, 0, doneBytes)
	c.Acked(api.Handshake, kept(0, 2))
	holds(t, "H7: all but what came in Initial", c, 6)
	c.Drop(api.Initial)
	holds(t, "H7: dropped", c, 0)

	s := server(t)
	takes(t, "H7: not open", s, api.Handshake, 0, "abc", api.CodeNone)
	holds(t, "H7: passed over", s, 0)
	takes(t, "H7", s, api.Initial, 0, helloBytes, api.CodeNone)
	holds(t, "H7: ANSWER, TERMS, DONE", s, 12)
}

// H7: the bound, with all that may come.
func TestHeldBound(t *testing.T) {
	s := made(t, api.Server, utmost)
	takes(t, "H7", s, api.Initial, 0, message(1, 8, 400, long(400))+strings.Repeat("\x05", 4096-409), api.CodeHand)
	takes(t, "H7", s, api.Initial, 4096, strings.Repeat("\x05", 409), api.CodeHand)
	holds(t, "H7: one space is full", s, 4096+2+53)
	takes(t, "H7", s, api.Initial, 4096+408, "\x05\x05", api.CodeCrypto)
	takes(t, "H7", s, api.Handshake, 1, strings.Repeat("\x05", 4095), api.CodeNone)
	takes(t, "H7", s, api.Handshake, 0, "\x05", api.CodeHand)
	holds(t, "H7: both are", s, 2*4096+2+53)
	if s.Held() > 2*api.MaxCrypto+1000 {
		t.Error("H7: above the bound")
	}
}
