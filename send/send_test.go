package send

import (
	"fmt"
	"math"
	"slices"
	"strings"
	"testing"

	"portage/api"
)

// made is a new one.
func made(t *testing.T, capacity int) *Send {
	t.Helper()
	s, err := New(capacity)
	if s == nil || err != api.OK {
		t.Fatalf("P15.1: New(%d) = %v, %d", capacity, s, err)
	}
	return s
}

// holding is one of this capacity to which this was written, and of which so many bytes were sent.
func holding(t *testing.T, capacity int, text string, sent int64) *Send {
	t.Helper()
	s := made(t, capacity)
	write(t, s, text)
	if sent > 0 {
		s.Next(math.MaxInt, sent)
	}
	return s
}

// write writes what must be taken.
func write(t *testing.T, s *Send, text string) {
	t.Helper()
	if err := s.Write([]byte(text)); err != api.OK {
		t.Fatalf("P15.2: Write(%.20q): %d", text, err)
	}
}

// refused writes what must be refused: nothing changes.
func refused(t *testing.T, say string, s *Send, text string, want api.Errno) {
	t.Helper()
	ahead := s.View()
	if err := s.Write([]byte(text)); err != want {
		t.Errorf("%s: Write(%.20q): %d, want %d", say, text, err, want)
	}
	unchanged(t, say, s, ahead)
}

// fin tells Fin, which must be taken.
func fin(t *testing.T, s *Send) {
	t.Helper()
	if err := s.Fin(); err != api.OK {
		t.Fatalf("P15.3: Fin: %d", err)
	}
}

// refusedFin tells Fin, which must be refused: nothing changes.
func refusedFin(t *testing.T, say string, s *Send) {
	t.Helper()
	ahead := s.View()
	if err := s.Fin(); err != api.ErrSendDone {
		t.Errorf("%s: Fin: %d, want %d", say, err, api.ErrSendDone)
	}
	unchanged(t, say, s, ahead)
}

// piece tells a piece as the chapter's table does, a "." behind it: with fin. Nothing: "nothing".
func piece(off int64, data []byte, fin, ok bool) string {
	if !ok {
		if off != 0 || len(data) != 0 || fin {
			return fmt.Sprintf("nothing, but %q at %d, %v", data, off, fin)
		}
		return "nothing"
	}
	dot := ""
	if fin {
		dot = "."
	}
	return fmt.Sprintf("%s%s at %d", data, dot, off)
}

// next asks for a piece; where it is nothing, nothing changes.
func next(t *testing.T, say string, s *Send, most int, limit int64, want string) {
	t.Helper()
	ahead := s.View()
	if got := piece(s.Next(most, limit)); got != want {
		t.Errorf("%s: Next(%d, %d): %s, want %s", say, most, limit, got, want)
	}
	if want == "nothing" {
		unchanged(t, say, s, ahead)
	}
}

// waits asks whether something waits: nothing changes.
func waits(t *testing.T, say string, s *Send, limit int64, want bool) {
	t.Helper()
	ahead := s.View()
	if got := s.Waits(limit); got != want {
		t.Errorf("%s: Waits(%d): %v, want %v", say, limit, got, want)
	}
	unchanged(t, say, s, ahead)
}

// text tells a view: Written, Sent and Base, the acknowledged and the lost offsets, and what is true of it.
func text(v api.SendView) string {
	l := []string{fmt.Sprint(v.Written, v.Sent, v.Base)}
	for _, part := range []struct {
		name string
		runs []api.Run
	}{{"acked", v.Acked}, {"lost", v.Lost}} {
		if len(part.runs) > 0 {
			l = append(l, part.name)
		}
		for _, r := range part.runs {
			l = append(l, fmt.Sprintf("%d-%d", r.Lo, r.Hi))
		}
	}
	for _, flag := range []struct {
		name string
		is   bool
	}{{"Fin", v.Fin}, {"FinSent", v.FinSent}, {"FinAcked", v.FinAcked}, {"Stopped", v.Stopped}, {"Done", v.Done}} {
		if flag.is {
			l = append(l, flag.name)
		}
	}
	return strings.Join(l, " ")
}

func views(t *testing.T, say string, s *Send, want string) {
	t.Helper()
	if got := text(s.View()); got != want {
		t.Errorf("%s: View: %s, want %s", say, got, want)
	}
}

func unchanged(t *testing.T, say string, s *Send, ahead api.SendView) {
	t.Helper()
	if got, want := text(s.View()), text(ahead); got != want {
		t.Errorf("%s: it was %s, and is %s", say, want, got)
	}
}

// twin is another one of the same state, which goes its own way.
func twin(s *Send) *Send {
	c := *s
	c.held, c.acked, c.lost = slices.Clone(s.held), s.acked.Clone(), s.lost.Clone()
	return &c
}

func TestExamples(t *testing.T) {
	s := made(t, 10)
	next(t, "Examples", s, 9, 99, "nothing")
	waits(t, "Examples", s, 99, false)
	views(t, "Examples", s, "0 0 0")
	write(t, s, "abcdefgh")
	views(t, "Examples", s, "8 0 0")
	refused(t, "Examples", s, "xyz", api.ErrFull)
	next(t, "Examples", s, 3, 5, "abc at 0")
	next(t, "Examples", s, 9, 5, "de at 3")
	next(t, "Examples", s, 9, 5, "nothing")
	views(t, "Examples", s, "8 5 0")
	waits(t, "Examples", s, 5, false)
	waits(t, "Examples", s, 6, true)
	s.Acked(3, 2, false)
	views(t, "Examples", s, "8 5 0 acked 3-4")
	s.Lost(1, 9, false)
	views(t, "Examples", s, "8 5 0 acked 3-4 lost 1-2")
	write(t, s, "ij")
	fin(t, s)
	refused(t, "Examples", s, "", api.ErrSendDone)
	views(t, "Examples", s, "10 5 0 acked 3-4 lost 1-2 Fin")
	next(t, "Examples", s, 1, 0, "b at 1")
	next(t, "Examples", s, 0, 99, "nothing")
	next(t, "Examples", s, 9, 99, "c at 2")
	views(t, "Examples", s, "10 5 0 acked 3-4 Fin")
	next(t, "Examples", s, 9, 99, "fghij. at 5")
	next(t, "Examples", s, 9, 99, "nothing")
	views(t, "Examples", s, "10 10 0 acked 3-4 Fin FinSent")
	s.Lost(9, 1, true)
	views(t, "Examples", s, "10 10 0 acked 3-4 lost 9-9 Fin")
	next(t, "Examples", s, 9, 0, "j. at 9")
	next(t, "Examples", s, 9, 0, "nothing")
	views(t, "Examples", s, "10 10 0 acked 3-4 Fin FinSent")
	s.Lost(10, 0, true)
	views(t, "Examples", s, "10 10 0 acked 3-4 Fin")
	next(t, "Examples", s, 0, 0, ". at 10")
	views(t, "Examples", s, "10 10 0 acked 3-4 Fin FinSent")
	s.Acked(0, 99, false)
	s.Acked(0, 0, true)
	views(t, "Examples", s, "10 10 10 acked 0-9 Fin FinSent FinAcked Done")
	s.Lost(0, 99, true)
	next(t, "Examples", s, 9, 99, "nothing")
	s.Stop()
	views(t, "Examples", s, "10 10 10 acked 0-9 Fin FinSent FinAcked Done")
}

func TestNew(t *testing.T) {
	for _, capacity := range []int{math.MinInt, -65536, -1, 0, 65537, 1 << 20, 1<<32 + 1, math.MaxInt} {
		if s, err := New(capacity); s != nil || err != api.ErrArg {
			t.Errorf("P15.1: New(%d) = %v, %d, want nil, ErrArg", capacity, s, err)
		}
	}
	for _, capacity := range []int{1, 2, 10, 65535, 65536} {
		s := made(t, capacity)
		views(t, "P15.1", s, "0 0 0")
		waits(t, "P15.1", s, math.MaxInt64, false)
		next(t, "P15.1", s, math.MaxInt, math.MaxInt64, "nothing")
		refused(t, "P15.1: one more than the capacity", s, strings.Repeat("x", capacity+1), api.ErrFull)
		write(t, s, strings.Repeat("x", capacity))
		refused(t, "P15.1: the capacity is full", s, "y", api.ErrFull)
		next(t, "P15.1", s, math.MaxInt, math.MaxInt64, strings.Repeat("x", capacity)+" at 0")
	}
}

func TestWrite(t *testing.T) {
	s := made(t, 10)
	write(t, s, "")
	views(t, "P15.2: of nothing", s, "0 0 0")
	waits(t, "P15.2: of nothing", s, 99, false)
	write(t, s, "ab")
	write(t, s, "c")
	write(t, s, "")
	write(t, s, "def")
	views(t, "P15.2: in several pieces", s, "6 0 0")
	refused(t, "P15.2: one byte more than what is left", s, "ghijk", api.ErrFull)
	refused(t, "P15.2: much more than what is left", s, strings.Repeat("g", 100000), api.ErrFull)
	write(t, s, "ghij")
	views(t, "P15.2: just what is left", s, "10 0 0")
	refused(t, "P15.2: nothing is left", s, "k", api.ErrFull)
	write(t, s, "")
	views(t, "P15.2: of nothing, as nothing is left", s, "10 0 0")
	next(t, "P15.2: the bytes in their order, of what was refused none", s, 99, 99, "abcdefghij at 0")
}

// Room comes back as Base rises, not ahead of it: neither as bytes are sent nor as later ones are acknowledged.
func TestRoomComesBack(t *testing.T) {
	s := holding(t, 5, "abcde", 5)
	refused(t, "P15.2: all are sent", s, "f", api.ErrFull)
	s.Acked(2, 3, false)
	views(t, "P15.2: but the first ones acknowledged", s, "5 5 0 acked 2-4")
	refused(t, "P15.2: but the first ones acknowledged", s, "f", api.ErrFull)
	s.Lost(0, 2, false)
	refused(t, "P15.2: the first ones lost", s, "f", api.ErrFull)
	s.Acked(0, 1, false)
	views(t, "P15.2: Base is 1", s, "5 5 1 acked 0-0 2-4 lost 1-1")
	refused(t, "P15.2: Base is 1", s, "fg", api.ErrFull)
	write(t, s, "f")
	refused(t, "P15.2: Base is 1, and it is full", s, "g", api.ErrFull)
	s.Acked(1, 1, false)
	views(t, "P15.2: Base is 5", s, "6 5 5 acked 0-4")
	refused(t, "P15.2: Base is 5", s, "ghijk", api.ErrFull)
	write(t, s, "ghij")
	next(t, "P15.2: behind two times the capacity", s, 99, 99, "fghij at 5")
	s.Acked(5, 5, false)
	write(t, s, "klmno")
	next(t, "P15.2: behind three times the capacity", s, 99, 99, "klmno at 10")
	views(t, "P15.2: behind three times the capacity", s, "15 15 10 acked 0-9")
}

func TestWriteBehindTheEnd(t *testing.T) {
	ends := []struct {
		say string
		end func(s *Send)
	}{
		{"behind Fin", func(s *Send) { s.Fin() }},
		{"behind Stop", func(s *Send) { s.Stop() }},
		{"behind both", func(s *Send) { s.Fin(); s.Stop() }},
		{"once it is done", func(s *Send) { s.Fin(); s.Next(99, 99); s.Acked(0, 99, true) }},
		{"once it is done, and Stop", func(s *Send) { s.Fin(); s.Next(99, 99); s.Acked(0, 99, true); s.Stop() }},
	}
	for _, c := range ends {
		for _, text := range []string{"", "abc", "abcde"} {
			s := holding(t, 5, text, 0)
			c.end(s)
			for _, p := range []string{"", "x", "123456", strings.Repeat("x", 99)} {
				refused(t, "P15.2: "+c.say, s, p, api.ErrSendDone)
			}
			refusedFin(t, "P15.3: "+c.say, s)
		}
	}
	// Done is asked for ahead of room.
	s := holding(t, 5, "abcde", 0)
	fin(t, s)
	refused(t, "P15.2: of two refusals the first", s, "f", api.ErrSendDone)
}

func TestFin(t *testing.T) {
	s := holding(t, 9, "abc", 0)
	fin(t, s)
	views(t, "P15.3", s, "3 0 0 Fin")
	refusedFin(t, "P15.3: twice", s)
	next(t, "P15.3: no more bytes than Written", s, 99, 99, "abc. at 0")
	views(t, "P15.3", s, "3 3 0 Fin FinSent")
	s = made(t, 9)
	fin(t, s)
	views(t, "P15.3: with no byte", s, "0 0 0 Fin")
	next(t, "P15.3: with no byte", s, 99, 99, ". at 0")
	// A Write that was refused for room doesn't stand in its way, nor does one of nothing.
	s = holding(t, 1, "a", 0)
	refused(t, "P15.3", s, "b", api.ErrFull)
	write(t, s, "")
	fin(t, s)
	next(t, "P15.3", s, 9, 9, "a. at 0")
}
