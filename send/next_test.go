package send

import (
	"math"
	"strings"
	"testing"

	"portage/api"
)

// Numbers at edges, as limits and as most.
var limits = []int64{math.MinInt64, -1 << 62, -2, -1, 0, 1, 2, 3, 4, 5, 6, 7, 8, 9, 10, 11, 99, 1 << 31, api.MaxNumber, 1 << 62, math.MaxInt64}

var mosts = []int{math.MinInt, -5, -1, 0, 1, 2, 3, 4, 5, 9, 99, 1 << 31, math.MaxInt - 1, math.MaxInt}

func TestNextNew(t *testing.T) {
	for _, c := range []struct {
		most  int
		limit int64
		want  string
	}{
		{1, 99, "d at 3"}, {2, 99, "de at 3"}, {3, 99, "def at 3"}, {4, 99, "defg at 3"}, {5, 99, "defgh at 3"}, {6, 99, "defgh at 3"},
		{math.MaxInt, math.MaxInt64, "defgh at 3"}, {math.MaxInt - 1, 99, "defgh at 3"}, {1 << 32, 99, "defgh at 3"},
		{99, 9, "defgh at 3"}, {99, 8, "defgh at 3"}, {99, 7, "defg at 3"}, {99, 5, "de at 3"}, {99, 4, "d at 3"},
		{2, 5, "de at 3"}, {2, 6, "de at 3"}, {3, 5, "de at 3"}, {1, 4, "d at 3"}, {1, 5, "d at 3"},
		{99, 3, "nothing"}, {99, 2, "nothing"}, {99, 0, "nothing"}, {99, -1, "nothing"}, {99, math.MinInt64, "nothing"},
		{0, 99, "nothing"}, {-1, 99, "nothing"}, {math.MinInt, 99, "nothing"}, {0, 0, "nothing"}, {math.MinInt, math.MinInt64, "nothing"},
	} {
		s := holding(t, 9, "abcdefgh", 3)
		next(t, "P15.4, 3: new bytes", s, c.most, c.limit, c.want)
		fin(t, s)
		want := "nothing"
		if v := s.View(); c.want != "nothing" && v.Sent == v.Written {
			want = ". at 8" // they went without the fin
		}
		next(t, "P15.4: and nothing more", s, 0, c.limit, want)
	}
}

// A piece of new bytes has the fin just if it goes up to the end, whatever kept it from that.
func TestNextNewWithFin(t *testing.T) {
	for _, c := range []struct {
		most  int
		limit int64
		want  string
	}{
		{5, 99, "defgh. at 3"}, {99, 8, "defgh. at 3"}, {99, 99, "defgh. at 3"}, {math.MaxInt, math.MaxInt64, "defgh. at 3"},
		{4, 99, "defg at 3"}, {99, 7, "defg at 3"}, {1, 99, "d at 3"}, {99, 4, "d at 3"},
		{99, 3, "nothing"}, {0, 99, "nothing"}, {-1, 99, "nothing"},
	} {
		s := holding(t, 9, "abcdefgh", 3)
		fin(t, s)
		next(t, "P15.4, 3: new bytes, behind Fin", s, c.most, c.limit, c.want)
		if got, want := s.View().FinSent, strings.Contains(c.want, "."); got != want {
			t.Errorf("P15.4: Next(%d, %d): FinSent %v, want %v", c.most, c.limit, got, want)
		}
	}
}

func TestNextLost(t *testing.T) {
	for _, c := range []struct {
		most int
		want string
	}{
		{1, "b at 1"}, {2, "bc at 1"}, {3, "bcd at 1"}, {4, "bcd at 1"}, {math.MaxInt, "bcd at 1"}, {math.MaxInt - 1, "bcd at 1"},
		{0, "nothing"}, {-1, "nothing"}, {math.MinInt, "nothing"},
	} {
		// What is lost goes whatever limit is, and ahead of what is new.
		for _, limit := range limits {
			s := holding(t, 9, "abcdefgh", 6)
			s.Lost(1, 3, false)
			s.Lost(5, 1, false)
			next(t, "P15.4, 2: lost bytes", s, c.most, limit, c.want)
			waits(t, "P15.5: lost bytes", s, limit, true)
		}
	}
}

// A lost stretch that is longer than most goes piece by piece; then the next one; then what is new.
func TestNextLostPieceByPiece(t *testing.T) {
	s := holding(t, 12, "abcdefghijkl", 9)
	s.Lost(6, 2, false)
	s.Lost(0, 5, false)
	next(t, "P15.4", s, 2, -1, "ab at 0")
	views(t, "P15.4: under way again", s, "12 9 0 lost 2-4 6-7")
	next(t, "P15.4", s, 2, 9, "cd at 2")
	next(t, "P15.4", s, 2, 9, "e at 4")
	views(t, "P15.4: under way again", s, "12 9 0 lost 6-7")
	s.Lost(1, 1, false)
	next(t, "P15.4: lost once more, the lowest first", s, 2, 99, "b at 1")
	next(t, "P15.4: the next stretch", s, 2, 99, "gh at 6")
	views(t, "P15.4", s, "12 9 0")
	next(t, "P15.4: then what is new", s, 2, 99, "jk at 9")
	s.Lost(8, 2, false)
	next(t, "P15.4: lost ones that touch what was never sent end there", s, 9, 99, "ij at 8")
	s.Lost(9, 2, false)
	next(t, "P15.4: lost ones end at Sent", s, 9, 99, "jk at 9")
	next(t, "P15.4", s, 9, 99, "l at 11")
	next(t, "P15.4", s, 9, 99, "nothing")
}

// Lost ones with acknowledged ones between them, and with ones that are under way.
func TestNextLostBetween(t *testing.T) {
	s := holding(t, 12, "abcdefghijkl", 12)
	s.Acked(4, 1, false)
	s.Lost(2, 5, false)
	views(t, "P15.7", s, "12 12 0 acked 4-4 lost 2-3 5-6")
	next(t, "P15.4: up to one that is acknowledged", s, 99, 99, "cd at 2")
	next(t, "P15.4: from behind it", s, 99, 99, "fg at 5")
	s.Lost(2, 1, false)
	s.Lost(3, 1, false)
	next(t, "P15.4: two that were lost one by one", s, 99, 99, "cd at 2")
	s.Lost(0, 12, false)
	s.Acked(0, 3, false)
	s.Acked(9, 2, false)
	next(t, "P15.4: behind ones that were acknowledged behind their loss", s, 99, 99, "d at 3")
	next(t, "P15.4", s, 99, 99, "fghi at 5")
	next(t, "P15.4", s, 99, 99, "l at 11")
	next(t, "P15.4", s, 99, 99, "nothing")
}

// While most is below 1 a lost piece stands in the way of all else: of what is new, and of the fin.
func TestNextNoRoom(t *testing.T) {
	for _, most := range []int{0, -1, math.MinInt} {
		s := holding(t, 9, "abcdef", 4)
		s.Lost(3, 1, false)
		next(t, "P15.4: a lost piece ahead of a new one", s, most, 99, "nothing")
		fin(t, s)
		next(t, "P15.4: a lost piece ahead of a new one with fin", s, most, 99, "nothing")
		next(t, "P15.4", s, 1, 99, "d at 3")
		next(t, "P15.4: a new one, no room", s, most, 99, "nothing")
		next(t, "P15.4", s, 9, 99, "ef. at 4")
		s.Lost(0, 1, true)
		next(t, "P15.4: a lost piece ahead of the lost fin", s, most, 99, "nothing")
		next(t, "P15.4", s, 9, 99, "a at 0")
		next(t, "P15.4: the lost fin needs no room", s, most, math.MinInt64, ". at 6")
		s.Lost(5, 1, true)
		next(t, "P15.4: the last byte and the fin are lost", s, most, 99, "nothing")
		next(t, "P15.4: they go together", s, 1, 99, "f. at 5")
		next(t, "P15.4: and the fin isn't told twice", s, 1, 99, "nothing")
	}
}

// The fin alone goes whatever most and limit are, once all bytes were sent.
func TestNextFinAlone(t *testing.T) {
	for _, limit := range limits {
		for _, most := range mosts {
			s := holding(t, 5, "abc", 3)
			next(t, "P15.4, 4: there was no Fin", s, most, limit, "nothing")
			fin(t, s)
			views(t, "P15.4, 4", s, "3 3 0 Fin")
			next(t, "P15.4, 4: Fin, once all bytes were sent", s, most, limit, ". at 3")
			views(t, "P15.4, 4", s, "3 3 0 Fin FinSent")
			next(t, "P15.4, 5: it is under way", s, most, limit, "nothing")
			s.Lost(0, 0, true)
			next(t, "P15.4, 4: it was lost", s, most, limit, ". at 3")
			s.Acked(0, 0, true)
			next(t, "P15.4, 5: it is acknowledged", s, most, limit, "nothing")

			s = made(t, 5)
			next(t, "P15.4, 5: no byte, no Fin", s, most, limit, "nothing")
			fin(t, s)
			next(t, "P15.4, 4: of no byte at all", s, most, limit, ". at 0")
			next(t, "P15.4, 5: of no byte at all", s, most, limit, "nothing")
		}
	}
	s := holding(t, 5, "abc", 3)
	s.Acked(0, 3, false)
	fin(t, s)
	next(t, "P15.4, 4: all bytes are acknowledged", s, 0, 0, ". at 3")
	views(t, "P15.4, 4: all bytes are acknowledged", s, "3 3 3 acked 0-2 Fin FinSent")
	s = holding(t, 5, "abc", 2)
	fin(t, s)
	next(t, "P15.4, 4: not all bytes were sent", s, 0, 99, "nothing")
	next(t, "P15.4, 4: nor may be", s, 9, 2, "nothing")
}

// A lost last piece that goes again has the fin with it, whatever became of the fin.
func TestNextLostWithFin(t *testing.T) {
	s := holding(t, 9, "abcdef", 6)
	fin(t, s)
	s.Lost(4, 2, false)
	next(t, "P15.4: the fin was never sent", s, 9, 0, "ef. at 4")
	views(t, "P15.4: the fin was never sent", s, "6 6 0 Fin FinSent")
	next(t, "P15.4: it went with them", s, 9, 0, "nothing")

	s.Lost(4, 2, false)
	views(t, "P15.7: without the fin", s, "6 6 0 lost 4-5 Fin FinSent")
	next(t, "P15.4: short of the end", s, 1, 0, "e at 4")
	next(t, "P15.4: the fin is under way", s, 1, 0, "f. at 5")
	views(t, "P15.4: the fin is under way", s, "6 6 0 Fin FinSent")

	s.Lost(5, 1, true)
	views(t, "P15.7: with the fin", s, "6 6 0 lost 5-5 Fin")
	next(t, "P15.4: the fin is lost", s, 9, 0, "f. at 5")
	views(t, "P15.4: the fin is lost", s, "6 6 0 Fin FinSent")

	s.Acked(0, 0, true)
	s.Lost(5, 1, true)
	views(t, "P15.7: the fin is acknowledged", s, "6 6 0 lost 5-5 Fin FinSent FinAcked")
	next(t, "P15.4: the fin is acknowledged", s, 9, 0, "f. at 5")
	views(t, "P15.4: an acknowledged one stays acknowledged", s, "6 6 0 Fin FinSent FinAcked")
	s.Lost(0, 0, true)
	next(t, "P15.4: an acknowledged one isn't told again", s, 9, 0, "nothing")

	s = holding(t, 9, "abcdef", 6)
	s.Lost(4, 2, false)
	next(t, "P15.4: there was no Fin", s, 9, 0, "ef at 4")
}

// A lost piece that ends where what was sent ends has no fin while more was written.
func TestNextLostShortOfTheEnd(t *testing.T) {
	s := holding(t, 9, "abcdef", 4)
	fin(t, s)
	s.Lost(2, 2, true)
	next(t, "P15.4", s, 9, 99, "cd at 2")
	views(t, "P15.4", s, "6 4 0 Fin")
	next(t, "P15.4", s, 9, 99, "ef. at 4")
	views(t, "P15.4", s, "6 6 0 Fin FinSent")
}

// Sent is the end of the furthest piece: what goes again doesn't set it back.
func TestSentRises(t *testing.T) {
	s := made(t, 9)
	write(t, s, "abcdef")
	for _, c := range []struct {
		limit int64
		view  string
	}{{-9, "6 0 0"}, {0, "6 0 0"}, {2, "6 2 0"}, {1, "6 2 0"}, {3, "6 3 0"}, {99, "6 6 0"}, {3, "6 6 0"}} {
		s.Next(9, c.limit)
		views(t, "P15.4: Sent", s, c.view)
	}
	s.Lost(0, 2, false)
	next(t, "P15.4", s, 9, 9, "ab at 0")
	views(t, "P15.4: Sent, of a lost piece", s, "6 6 0")
	write(t, s, "gh")
	next(t, "P15.4", s, 9, 7, "g at 6")
	views(t, "P15.4: Sent, of one piece more", s, "8 7 0")
}

func TestWaits(t *testing.T) {
	s := holding(t, 9, "abc", 0)
	waits(t, "P15.5: at no limit", s, 0, false)
	waits(t, "P15.5: below it", s, -1, false)
	waits(t, "P15.5: one byte", s, 1, true)
	next(t, "P15.5", s, 9, 2, "ab at 0")
	waits(t, "P15.5: at Sent", s, 2, false)
	waits(t, "P15.5: at Written", s, 3, true)
	next(t, "P15.5", s, 9, 3, "c at 2")
	waits(t, "P15.5: all is sent", s, math.MaxInt64, false)
	s.Lost(1, 1, false)
	waits(t, "P15.5: one is lost", s, math.MinInt64, true)
	s.Acked(1, 1, false)
	waits(t, "P15.5: it is acknowledged", s, math.MaxInt64, false)
	fin(t, s)
	waits(t, "P15.5: the fin", s, math.MinInt64, true)
	next(t, "P15.5", s, 0, 0, ". at 3")
	waits(t, "P15.5: it is under way", s, math.MaxInt64, false)
	s.Lost(3, 0, true)
	waits(t, "P15.5: it is lost", s, math.MinInt64, true)
	s.Acked(3, 0, true)
	waits(t, "P15.5: it is acknowledged", s, math.MaxInt64, false)
	s.Lost(0, 1, false)
	s.Stop()
	waits(t, "P15.5: it is stopped", s, math.MaxInt64, false)
}
