package send

import (
	"math"
	"testing"
)

// Stretches of offsets, and which of six sent ones are meant by them: from lo on and below end.
var stretches = []struct {
	off, size int64
	lo, end   int64
}{
	{0, 6, 0, 6}, {0, 1, 0, 1}, {5, 1, 5, 6}, {2, 3, 2, 5}, {1, 5, 1, 6},
	{0, 0, 0, 0}, {3, 0, 0, 0}, {6, 0, 0, 0}, {0, -1, 0, 0}, {3, -1, 0, 0}, {6, -6, 0, 0}, {3, math.MinInt64, 0, 0},
	{0, 7, 0, 6}, {5, 2, 5, 6}, {3, 99, 3, 6}, {0, math.MaxInt64, 0, 6}, {1, math.MaxInt64, 1, 6}, {5, math.MaxInt64, 5, 6}, {2, math.MaxInt64 - 1, 2, 6},
	{6, 1, 0, 0}, {7, 1, 0, 0}, {6, math.MaxInt64, 0, 0}, {7, math.MaxInt64, 0, 0}, {9, 9, 0, 0},
	{math.MaxInt64, 1, 0, 0}, {math.MaxInt64, math.MaxInt64, 0, 0}, {math.MaxInt64, math.MinInt64, 0, 0}, {math.MaxInt64 - 5, 9, 0, 0}, {math.MaxInt64, 0, 0, 0},
	{-1, 1, 0, 0}, {-1, 2, 0, 1}, {-1, 3, 0, 2}, {-5, 5, 0, 0}, {-5, 6, 0, 1}, {-5, 11, 0, 6}, {-5, 10, 0, 5}, {-5, 12, 0, 6}, {-5, 99, 0, 6}, {-5, 4, 0, 0}, {-5, 0, 0, 0}, {-5, -9, 0, 0},
	{-1, math.MinInt64, 0, 0}, {-1, math.MaxInt64, 0, 6}, {-5, 1 << 62, 0, 6},
	{math.MinInt64, math.MaxInt64, 0, 0}, {math.MinInt64 + 1, math.MaxInt64, 0, 0}, {math.MinInt64 + 2, math.MaxInt64, 0, 1}, {math.MinInt64 + 4, math.MaxInt64, 0, 3}, {math.MinInt64 + 8, math.MaxInt64, 0, 6},
	{math.MinInt64, 1, 0, 0}, {math.MinInt64, 0, 0, 0}, {math.MinInt64, -1, 0, 0}, {math.MinInt64, math.MinInt64, 0, 0},
}

func TestAckedStretches(t *testing.T) {
	for _, c := range stretches {
		m := newReading(9)
		m.write([]byte("abcdefgh"))
		m.next(6, 99)
		for x := c.lo; x < c.end; x++ {
			m.state[x] = isAcked
		}
		s := holding(t, 9, "abcdefgh", 6)
		s.Acked(c.off, c.size, false)
		views(t, "P15.6", s, text(m.view()))
		if t.Failed() {
			t.Fatalf("P15.6: behind Acked(%d, %d)", c.off, c.size)
		}
	}
}

func TestLostStretches(t *testing.T) {
	for _, c := range stretches {
		m := newReading(9)
		m.write([]byte("abcdefgh"))
		m.next(6, 99)
		for x := c.lo; x < c.end; x++ {
			m.state[x] = isLost
		}
		s := holding(t, 9, "abcdefgh", 6)
		s.Lost(c.off, c.size, false)
		views(t, "P15.7", s, text(m.view()))
		if t.Failed() {
			t.Fatalf("P15.7: behind Lost(%d, %d)", c.off, c.size)
		}
	}
}

// Nothing was sent: nothing can be acknowledged or lost, also not ahead of time.
func TestNothingSent(t *testing.T) {
	for _, c := range stretches {
		s := holding(t, 9, "abcdefgh", 0)
		s.Acked(c.off, c.size, true)
		s.Lost(c.off, c.size, true)
		views(t, "P15.6, P15.7: nothing was sent", s, "8 0 0")
		next(t, "P15.4", s, 99, 99, "abcdefgh at 0")
		s = made(t, 9)
		s.Acked(c.off, c.size, true)
		s.Lost(c.off, c.size, true)
		views(t, "P15.6, P15.7: nothing was written", s, "0 0 0")
	}
}

func TestAckedInAnyOrder(t *testing.T) {
	s := holding(t, 9, "abcdefgh", 8)
	for _, c := range []struct {
		off, size int64
		view      string
	}{
		{6, 2, "8 8 0 acked 6-7"}, {2, 1, "8 8 0 acked 2-2 6-7"}, {4, 1, "8 8 0 acked 2-2 4-4 6-7"}, {2, 3, "8 8 0 acked 2-4 6-7"},
		{1, 1, "8 8 0 acked 1-4 6-7"}, {0, 1, "8 8 5 acked 0-4 6-7"}, {0, 3, "8 8 5 acked 0-4 6-7"}, {5, 1, "8 8 8 acked 0-7"}, {0, 8, "8 8 8 acked 0-7"},
	} {
		s.Acked(c.off, c.size, false)
		views(t, "P15.6: Base, in any order", s, c.view)
	}
	write(t, s, "i")
	s.Acked(0, 99, false)
	views(t, "P15.6: what was not sent yet", s, "9 8 8 acked 0-7")
	next(t, "P15.4", s, 9, 99, "i at 8")
	s.Acked(8, 1, false)
	views(t, "P15.6", s, "9 9 9 acked 0-8")
}

// What is acknowledged stays so; what was lost may still be.
func TestLateAckedAndLateLost(t *testing.T) {
	s := holding(t, 9, "abcdefgh", 8)
	s.Acked(2, 3, false)
	s.Lost(0, 8, false)
	views(t, "P15.7: lost behind its acknowledgement", s, "8 8 0 acked 2-4 lost 0-1 5-7")
	s.Lost(2, 3, false)
	views(t, "P15.7: lost behind its acknowledgement", s, "8 8 0 acked 2-4 lost 0-1 5-7")
	s.Acked(6, 1, false)
	views(t, "P15.6: acknowledged behind its loss", s, "8 8 0 acked 2-4 6-6 lost 0-1 5-5 7-7")
	s.Acked(0, 6, false)
	views(t, "P15.6: acknowledged behind its loss", s, "8 8 7 acked 0-6 lost 7-7")
	s.Lost(0, 7, false)
	views(t, "P15.7: Base never falls", s, "8 8 7 acked 0-6 lost 7-7")
	next(t, "P15.4", s, 9, 9, "h at 7")
	s.Acked(7, 1, false)
	s.Lost(7, 1, false)
	views(t, "P15.7", s, "8 8 8 acked 0-7")
	next(t, "P15.4", s, 9, 9, "nothing")
	// What is lost twice is lost, what went again may be lost again.
	s = holding(t, 9, "abcdefgh", 8)
	for range 2 {
		s.Lost(3, 2, false)
		s.Lost(3, 2, false)
		s.Lost(4, 2, false)
		views(t, "P15.7: twice", s, "8 8 0 lost 3-5")
		next(t, "P15.4", s, 9, 9, "def at 3")
	}
}

// The fin goes its own way, beside the offsets that are told with it.
func TestTheFin(t *testing.T) {
	s := holding(t, 9, "abc", 2)
	s.Acked(0, 0, true)
	s.Lost(0, 0, true)
	views(t, "P15.6: there is no Fin", s, "3 2 0")
	fin(t, s)
	s.Acked(0, 0, true)
	views(t, "P15.6: acknowledged ahead of being sent", s, "3 2 0 Fin")
	s.Lost(0, 0, true)
	views(t, "P15.7: lost ahead of being sent", s, "3 2 0 Fin")
	next(t, "P15.4", s, 9, 9, "c. at 2")
	s.Acked(2, 1, false)
	views(t, "P15.6: its byte alone is acknowledged", s, "3 3 0 acked 2-2 Fin FinSent")
	s.Lost(0, 1, false)
	views(t, "P15.7: not with it", s, "3 3 0 acked 2-2 lost 0-0 Fin FinSent")
	s.Lost(-9, 0, true)
	views(t, "P15.7: alone", s, "3 3 0 acked 2-2 lost 0-0 Fin")
	s.Lost(-9, 0, true)
	views(t, "P15.7: twice", s, "3 3 0 acked 2-2 lost 0-0 Fin")
	s.Acked(99, 99, true)
	views(t, "P15.6: acknowledged behind its loss", s, "3 3 0 acked 2-2 lost 0-0 Fin FinSent FinAcked")
	s.Lost(0, 0, true)
	views(t, "P15.7: lost behind its acknowledgement", s, "3 3 0 acked 2-2 lost 0-0 Fin FinSent FinAcked")
	s.Acked(0, 2, false)
	views(t, "P15.9: Done", s, "3 3 3 acked 0-2 Fin FinSent FinAcked Done")

	s = holding(t, 9, "abc", 0)
	fin(t, s)
	s.Next(9, 9)
	s.Acked(0, 3, true)
	views(t, "P15.9: Done at once", s, "3 3 3 acked 0-2 Fin FinSent FinAcked Done")
	s.Acked(0, 3, true)
	s.Lost(0, 3, true)
	views(t, "P15.9: Done stays", s, "3 3 3 acked 0-2 Fin FinSent FinAcked Done")

	s = made(t, 1)
	fin(t, s)
	views(t, "P15.9: no byte, and the fin isn't acknowledged", s, "0 0 0 Fin")
	s.Acked(0, 0, true)
	views(t, "P15.6: acknowledged ahead of being sent", s, "0 0 0 Fin")
	s.Next(0, 0)
	s.Acked(0, 0, true)
	views(t, "P15.9: Done, with no byte", s, "0 0 0 Fin FinSent FinAcked Done")
}

// All bytes are acknowledged, but there is no Fin, or it isn't acknowledged: it isn't done.
func TestNotDone(t *testing.T) {
	s := holding(t, 3, "abc", 3)
	s.Acked(0, 3, true)
	views(t, "P15.9: no Fin", s, "3 3 3 acked 0-2")
	fin(t, s)
	views(t, "P15.9: the fin was never sent", s, "3 3 3 acked 0-2 Fin")
	next(t, "P15.4", s, 9, 9, ". at 3")
	views(t, "P15.9: the fin is under way", s, "3 3 3 acked 0-2 Fin FinSent")
	s.Lost(3, 0, true)
	views(t, "P15.9: the fin is lost", s, "3 3 3 acked 0-2 Fin")
	s.Acked(3, 0, true)
	views(t, "P15.9: Done", s, "3 3 3 acked 0-2 Fin FinSent FinAcked Done")
}
