package hand

import (
	"math"
	"testing"

	"portage/api"
)

// H4: a room below 6 is none; of others 5 bytes less.
func TestNextRoom(t *testing.T) {
	c := client(t)
	for _, room := range []int{5, 4, 1, 0, -1, -6, math.MinInt + 4, math.MinInt + 5, math.MinInt} {
		refuses(t, "H4: no room", c, api.Initial, room)
	}
	if !c.Waits(api.Initial) {
		t.Error("H4: it waits still")
	}
	tells(t, "H4: room for one", c, api.Initial, 6, 0, helloBytes[:1])
	tells(t, "H4: room for two", c, api.Initial, 7, 1, helloBytes[1:3])
	tells(t, "H4: room for just as many as there are", c, api.Initial, 8, 3, helloBytes[3:])
	silent(t, "H4", c, api.Initial)
	for _, room := range []int{10, 11, 12, 1 << 20, math.MaxInt - 1, math.MaxInt} {
		c = client(t)
		want := min(room-5, 6)
		tells(t, "H4: more room", c, api.Initial, room, 0, helloBytes[:want])
		if c.Waits(api.Initial) != (want < 6) {
			t.Errorf("H4: Waits with a room of %d", room)
		}
	}
	s := greeted(t)
	for _, space := range elsewhere {
		silent(t, "H4: another space", s, space)
		refuses(t, "H4: another space", s, space, 6)
	}
}

// H4: lost bytes go ahead of those that were never told, the lowest first, as many as stand in a row.
func TestNextLostFirst(t *testing.T) {
	s := greeted(t)
	all := termsBytes + doneBytes
	tells(t, "H4", s, api.Handshake, 12, 0, all[:7])
	s.Lost(api.Handshake, kept(4, 2))
	s.Lost(api.Handshake, kept(1, 2))
	refuses(t, "H4: no room for lost ones", s, api.Handshake, 5)
	tells(t, "H4: the lowest lost one", s, api.Handshake, 6, 1, all[1:2])
	tells(t, "H4: not across a gap", s, api.Handshake, 1200, 2, all[2:3])
	s.Lost(api.Handshake, kept(3, 1))
	tells(t, "H4: in a row", s, api.Handshake, 1200, 3, all[3:6])
	tells(t, "H4: what was never told", s, api.Handshake, 1200, 7, all[7:])
	silent(t, "H4", s, api.Handshake)
	s.Lost(api.Handshake, kept(0, 10))
	tells(t, "H4: all again", s, api.Handshake, 1200, 0, all)
	s.Lost(api.Handshake, kept(6, 4))
	tells(t, "H4: both messages' bytes", s, api.Handshake, 8, 6, all[6:9])
	tells(t, "H4", s, api.Handshake, 1200, 9, all[9:])
	// Lost bytes that touch those that were never told go without them.
	c := client(t)
	tells(t, "H4", c, api.Initial, 8, 0, helloBytes[:3])
	c.Lost(api.Initial, kept(2, 1))
	tells(t, "H4", c, api.Initial, 1200, 2, helloBytes[2:3])
	tells(t, "H4", c, api.Initial, 1200, 3, helloBytes[3:])
}

// H4: which bytes are meant, whatever Offset and Size are.
func TestMeant(t *testing.T) {
	for _, x := range []struct {
		off, size int64
		lo, hi    int
	}{
		{0, 1, 0, 0}, {5, 1, 5, 5}, {5, 2, 5, 5}, {6, 1, 0, -1}, {0, 6, 0, 5}, {0, 7, 0, 5}, {-1, 1, 0, -1}, {-1, 2, 0, 0}, {-3, 5, 0, 1},
		{2, 0, 0, -1}, {2, -1, 0, -1}, {0, math.MinInt64, 0, -1}, {math.MinInt64, math.MaxInt64, 0, -1}, {math.MinInt64, 1, 0, -1},
		{-1, math.MaxInt64, 0, 5}, {1, math.MaxInt64, 1, 5}, {math.MaxInt64, 1, 0, -1}, {math.MaxInt64, math.MaxInt64, 0, -1},
		{5, math.MaxInt64, 5, 5}, {6, math.MaxInt64, 0, -1}, {-5, math.MinInt64, 0, -1}, {api.MaxNumber, api.MaxNumber, 0, -1},
	} {
		c := client(t)
		tells(t, "H4", c, api.Initial, 1200, 0, helloBytes)
		c.Lost(api.Initial, kept(x.off, x.size))
		if x.lo <= x.hi {
			tells(t, "H4: lost", c, api.Initial, 1200, int64(x.lo), helloBytes[x.lo:x.hi+1])
		}
		silent(t, "H4: no others were lost", c, api.Initial)
		c.Acked(api.Initial, kept(x.off, x.size))
		c.Lost(api.Initial, kept(0, 6))
		if x.lo > 0 || x.lo > x.hi {
			end := 6
			if x.lo <= x.hi {
				end = x.lo
			}
			tells(t, "H4: below what is acknowledged", c, api.Initial, 1200, 0, helloBytes[:end])
		}
		if x.lo <= x.hi && x.hi < 5 {
			tells(t, "H4: above what is acknowledged", c, api.Initial, 1200, int64(x.hi+1), helloBytes[x.hi+1:])
		}
		silent(t, "H4: what is acknowledged isn't lost", c, api.Initial)
	}
}

// H4: what was never told is neither acknowledged nor lost.
func TestNeverTold(t *testing.T) {
	c := client(t)
	unchanged(t, "H4: nothing was told", c, func() {
		c.Acked(api.Initial, kept(0, 6))
		c.Lost(api.Initial, kept(0, 6))
		c.Acked(api.Initial, kept(-4, 1<<40))
	})
	tells(t, "H4", c, api.Initial, 7, 0, helloBytes[:2])
	c.Acked(api.Initial, kept(0, 6))
	holds(t, "H4: two were told", c, 4)
	c.Lost(api.Initial, kept(0, 6))
	tells(t, "H4: the others are told for the first time", c, api.Initial, 1200, 2, helloBytes[2:])
	silent(t, "H4", c, api.Initial)
	c.Lost(api.Initial, kept(0, 6))
	tells(t, "H4: those that are acknowledged aren't lost", c, api.Initial, 1200, 2, helloBytes[2:])
	// An acknowledgement that comes behind the word that it was lost.
	c.Lost(api.Initial, kept(3, 2))
	c.Acked(api.Initial, kept(3, 2))
	silent(t, "H4: acknowledged late", c, api.Initial)
	// A stream in which nothing stands yet.
	s := server(t)
	unchanged(t, "H4: nothing stands", s, func() {
		for _, space := range []int{api.Initial, api.Handshake} {
			s.Acked(space, kept(0, 100))
			s.Lost(space, kept(0, 100))
		}
	})
	takes(t, "H4", s, api.Initial, 0, helloBytes, api.CodeNone)
	tells(t, "H4: it stands, and was never told", s, api.Initial, 1200, 0, answerBytes)
}

// H4: of any other frame, or space, nothing; Data isn't looked at.
func TestOtherFrames(t *testing.T) {
	s := greeted(t)
	tells(t, "H4", s, api.Initial, 1200, 0, answerBytes)
	tells(t, "H4", s, api.Handshake, 1200, 0, termsBytes+doneBytes)
	unchanged(t, "H4: another frame, another space", s, func() {
		for kind := -1; kind < 0x20; kind++ {
			f := kept(0, 10)
			if f.Kind = kind; kind == api.KCrypto {
				continue
			}
			for _, space := range []int{api.Initial, api.Handshake} {
				s.Acked(space, f)
				s.Lost(space, f)
			}
		}
		for _, space := range elsewhere {
			s.Acked(space, kept(0, 10))
			s.Lost(space, kept(0, 10))
		}
		f := crypto(0, "abcdef") // Size is 0: no bytes are meant
		s.Acked(api.Initial, f)
		s.Lost(api.Initial, f)
	})
	f := kept(3, 2)
	f.Data = []byte("abcdef")
	s.Lost(api.Handshake, f)
	silent(t, "H4: the other space is as it was", s, api.Initial)
	tells(t, "H4: Size tells how many", s, api.Handshake, 1200, 3, (termsBytes + doneBytes)[3:5])
	s.Acked(api.Handshake, f)
	s.Acked(api.Initial, kept(0, 2))
	s.Lost(api.Handshake, kept(0, 10))
	s.Lost(api.Initial, kept(0, 2))
	silent(t, "H4: acknowledged for good", s, api.Initial)
	tells(t, "H4", s, api.Handshake, 1200, 0, termsBytes[:3])
	tells(t, "H4", s, api.Handshake, 1200, 5, (termsBytes + doneBytes)[5:])
}
