package send

import (
	"testing"

	"portage/api"
)

// stays fails if one that is stopped answers or changes anything any more.
func stays(t *testing.T, say string, s *Send, view string) {
	t.Helper()
	for range 2 {
		views(t, say, s, view)
		for _, limit := range limits {
			waits(t, say, s, limit, false)
			for _, most := range mosts {
				next(t, say, s, most, limit, "nothing")
			}
		}
		for _, c := range stretches {
			s.Acked(c.off, c.size, true)
			s.Lost(c.off, c.size, true)
			s.Acked(c.off, c.size, false)
			s.Lost(c.off, c.size, false)
		}
		views(t, say, s, view)
		refused(t, say, s, "", api.ErrSendDone)
		refused(t, say, s, "abc", api.ErrSendDone)
		refusedFin(t, say, s)
		s.Stop()
	}
}

func TestStop(t *testing.T) {
	s := made(t, 9)
	s.Stop()
	stays(t, "P15.8: of nothing", s, "0 0 0 Stopped")

	s = holding(t, 9, "abcdefgh", 0)
	s.Stop()
	stays(t, "P15.8: nothing was sent", s, "8 0 0 Stopped")

	s = holding(t, 9, "abcdefgh", 6)
	s.Acked(1, 2, false)
	s.Stop()
	stays(t, "P15.8: some are under way", s, "8 6 0 acked 1-2 Stopped")

	s = holding(t, 9, "abcdefgh", 6)
	s.Acked(0, 2, false)
	s.Acked(3, 1, false)
	s.Lost(0, 9, false)
	views(t, "P15.8: ahead of it", s, "8 6 2 acked 0-1 3-3 lost 2-2 4-5")
	s.Stop()
	stays(t, "P15.8: lost offsets", s, "8 6 2 acked 0-1 3-3 Stopped")

	s = holding(t, 9, "abcdefgh", 6)
	s.Acked(0, 6, false)
	s.Stop()
	stays(t, "P15.8: all that was sent is acknowledged", s, "8 6 6 acked 0-5 Stopped")
}

func TestStopWithFin(t *testing.T) {
	s := made(t, 9)
	fin(t, s)
	s.Stop()
	stays(t, "P15.8: the fin was never sent", s, "0 0 0 Fin Stopped")

	s = holding(t, 9, "abcdefgh", 8)
	fin(t, s)
	s.Stop()
	stays(t, "P15.8: the fin was never sent, all else was", s, "8 8 0 Fin Stopped")

	s = holding(t, 9, "abcdefgh", 8)
	fin(t, s)
	s.Next(0, 0)
	s.Stop()
	stays(t, "P15.8: the fin is under way", s, "8 8 0 Fin FinSent Stopped")

	s = holding(t, 9, "abcdefgh", 8)
	fin(t, s)
	s.Next(0, 0)
	s.Lost(6, 2, true)
	views(t, "P15.8: ahead of it", s, "8 8 0 lost 6-7 Fin")
	s.Stop()
	stays(t, "P15.8: a lost fin is under way again", s, "8 8 0 Fin FinSent Stopped")

	s = holding(t, 9, "abcdefgh", 8)
	fin(t, s)
	s.Next(0, 0)
	s.Acked(0, 7, true)
	s.Lost(0, 8, true)
	views(t, "P15.8: ahead of it", s, "8 8 7 acked 0-6 lost 7-7 Fin FinSent FinAcked")
	s.Stop()
	stays(t, "P15.8: the fin is acknowledged, a byte isn't", s, "8 8 7 acked 0-6 Fin FinSent FinAcked Stopped")

	s = holding(t, 9, "abcdefgh", 8)
	s.Acked(0, 8, false)
	fin(t, s)
	s.Stop()
	stays(t, "P15.8: all bytes are acknowledged, the fin was never sent", s, "8 8 8 acked 0-7 Fin Stopped")

	s = holding(t, 9, "abcdefgh", 8)
	s.Acked(0, 8, false)
	fin(t, s)
	s.Next(0, 0)
	s.Lost(0, 0, true)
	s.Stop()
	stays(t, "P15.8: all bytes are acknowledged, the fin is lost", s, "8 8 8 acked 0-7 Fin FinSent Stopped")
}

// What is done isn't stopped any more.
func TestStopOnceDone(t *testing.T) {
	for _, text := range []string{"", "abcdef"} {
		s := holding(t, 9, text, 0)
		fin(t, s)
		s.Next(9, 9)
		s.Acked(0, 9, true)
		ahead := s.View()
		if !ahead.Done || ahead.Stopped {
			t.Fatalf("P15.9: %+v", ahead)
		}
		for range 2 {
			s.Stop()
			unchanged(t, "P15.8: once it is done", s, ahead)
			for _, limit := range limits {
				waits(t, "P15.8: once it is done", s, limit, false)
				for _, most := range mosts {
					next(t, "P15.8: once it is done", s, most, limit, "nothing")
				}
			}
			for _, c := range stretches {
				s.Lost(c.off, c.size, true)
				s.Acked(c.off, c.size, true)
			}
			unchanged(t, "P15.8: once it is done", s, ahead)
			refused(t, "P15.8: once it is done", s, "", api.ErrSendDone)
			refusedFin(t, "P15.8: once it is done", s)
		}
	}
}
