package send

import (
	"math"
	"math/rand/v2"
	"slices"
	"strings"
	"testing"

	"portage/api"
)

// roomy is a list of these bytes with the same ones behind it, as spare room.
func roomy(text string) []byte {
	return []byte(text + text)[:len(text)]
}

// spoil writes over bytes, with the room behind them.
func spoil(p []byte) {
	for i := range p[:cap(p)] {
		p[:cap(p)][i] = '!'
	}
}

// spoilRuns writes over runs, with the room behind them.
func spoilRuns(l []api.Run) {
	for i := range l[:cap(l)] {
		l[:cap(l)][i] = api.Run{Lo: -7, Hi: 77}
	}
}

// What is handed in isn't changed, nor the room behind it; nor is it kept.
func TestHandedIn(t *testing.T) {
	s := made(t, 10)
	for _, text := range []string{"abcd", "efg", "hij"} {
		p := roomy(text)
		if err := s.Write(p); err != api.OK || string(p[:cap(p)][:2*len(text)]) != text+text {
			t.Fatalf("R3: Write changes what it is handed: %d, %q", err, p[:cap(p)])
		}
		spoil(p)
	}
	next(t, "P15.10: what was written is written over", s, 6, 99, "abcdef at 0")
	p := roomy("klm")
	if err := s.Write(p); err != api.ErrFull || string(p[:6]) != "klmklm" {
		t.Errorf("R3: a Write that is refused changes what it is handed: %d, %q", err, p[:6])
	}
	s.Lost(0, 3, false)
	next(t, "P15.10: what was written is written over", s, 99, 99, "abc at 0")
	next(t, "P15.10: what was written is written over", s, 99, 99, "ghij at 6")
	s.Acked(0, 7, false)
	p = roomy("klmnopq")
	s.Write(p)
	spoil(p)
	next(t, "P15.10: what was written is written over", s, 99, 99, "klmnopq at 10")
}

// A Write of nothing, or of a list that is nil, keeps none of the room behind it.
func TestHandedInEmpty(t *testing.T) {
	s := made(t, 5)
	p := []byte("abcde")
	if err := s.Write(p[:0]); err != api.OK || string(p) != "abcde" {
		t.Errorf("R3: Write of nothing: %d, %q", err, p)
	}
	if err := s.Write(nil); err != api.OK {
		t.Errorf("R3: Write(nil): %d", err)
	}
	write(t, s, "fghij")
	if string(p) != "abcde" {
		t.Errorf("R3: the room behind an empty list is written to: %q", p)
	}
	spoil(p)
	next(t, "P15.10", s, 9, 9, "fghij at 0")
}

// What is answered is the caller's own: written over, it changes nothing, neither what is held nor another answer.
func TestAnsweredIsNewMemory(t *testing.T) {
	s := made(t, 10)
	write(t, s, "abcdefghij")
	var pieces [][]byte
	for range 4 {
		_, data, _, ok := s.Next(99, 99)
		if !ok || string(data) != "abcdefghij" {
			t.Fatalf("P15.10: a piece that was told is written over: %q, %v", data, ok)
		}
		pieces = append(pieces, slices.Clone(data))
		spoil(data)
		s.Lost(0, 10, false)
	}
	_, one, _, _ := s.Next(5, 99)
	_, two, _, _ := s.Next(5, 99)
	_ = append(one, "!!!!!!!!!!"...)
	spoil(one)
	if string(two) != "fghij" || string(pieces[0]) != "abcdefghij" {
		t.Errorf("R3: one piece, written over, changes another: %q", two)
	}
	spoil(two)
	s.Lost(0, 10, false)
	next(t, "P15.10: pieces that were told are written over", s, 99, 99, "abcdefghij at 0")
	// Bytes round the ring's end are put together from two places.
	s.Acked(0, 7, false)
	write(t, s, "klmnopq")
	_, data, _, _ := s.Next(99, 99)
	spoil(data)
	s.Lost(7, 10, false)
	next(t, "P15.10: round the ring's end", s, 99, 99, "hijklmnopq at 7")
}

func TestViewIsNewMemory(t *testing.T) {
	s := made(t, 10)
	write(t, s, "abcdefghij")
	s.Next(99, 99)
	s.Acked(1, 1, false)
	s.Acked(4, 2, false)
	s.Lost(2, 2, false)
	s.Lost(8, 2, false)
	const want = "10 10 0 acked 1-1 4-5 lost 2-3 8-9"
	views(t, "P15.9", s, want)
	for range 2 {
		v, again := s.View(), s.View()
		spoilRuns(v.Acked)
		if text(again) != want || !slices.Equal(v.Lost, again.Lost) {
			t.Errorf("R3: Acked of a View, written over: %s, %v", text(again), v.Lost)
		}
		v.Acked = slices.Clone(again.Acked)
		spoilRuns(v.Lost)
		if text(again) != want || !slices.Equal(v.Acked, again.Acked) {
			t.Errorf("R3: Lost of a View, written over: %s, %v", text(again), v.Acked)
		}
		_, _ = append(again.Acked, api.Run{}), append(again.Lost, api.Run{})
		views(t, "R3: a View's lists, written over", s, want)
	}
	next(t, "R3: a View's lists, written over", s, 99, 99, "cd at 2")
}

// A View that was told stays as it was, whatever comes behind it.
func TestViewStays(t *testing.T) {
	s := holding(t, 10, "abcdefghij", 10)
	s.Acked(4, 2, false)
	s.Lost(2, 5, false)
	v := s.View()
	s.Lost(0, 10, false)
	s.Acked(0, 3, false)
	s.Next(99, 99)
	s.Stop()
	if got := text(v); got != "10 10 0 acked 4-5 lost 2-3 6-6" {
		t.Errorf("R3: a View changes: %s", got)
	}
}

// Bytes are held no longer than they may be sent.
func TestHeld(t *testing.T) {
	s := made(t, 10)
	if s.held != nil {
		t.Errorf("P15.10: of nothing %d bytes are held", cap(s.held))
	}
	write(t, s, "")
	if s.held != nil {
		t.Errorf("P15.10: of nothing %d bytes are held", cap(s.held))
	}
	write(t, s, "abc")
	s.Next(9, 9)
	s.Stop()
	if s.held != nil {
		t.Errorf("P15.10: once it is stopped %d bytes are held", cap(s.held))
	}
	s = holding(t, 10, "abc", 3)
	fin(t, s)
	s.Acked(0, 2, false)
	s.Next(0, 0)
	s.Lost(2, 1, false)
	next(t, "P15.10: it may be sent still", s, 9, 9, "c. at 2")
	s.Acked(2, 1, false)
	if s.held != nil {
		t.Errorf("P15.10: all are acknowledged, and %d bytes are held", cap(s.held))
	}
	s.Lost(0, 0, true)
	next(t, "P15.10: the fin goes all the same", s, 9, 9, ". at 3")
	s = holding(t, 10, "abc", 3)
	s.Acked(0, 3, false)
	fin(t, s)
	if s.held != nil {
		t.Errorf("P15.10: all are acknowledged, then Fin, and %d bytes are held", cap(s.held))
	}
	next(t, "P15.10: the fin goes all the same", s, 9, 9, ". at 3")
}

// However much goes through, no more is held than the capacity, and what is held is right.
func TestLongStream(t *testing.T) {
	r := rand.New(rand.NewPCG(15, 5))
	for _, capacity := range []int{1, 7, 1000, api.MaxBuffer} {
		s := made(t, capacity)
		at := func(x int64) byte { return byte(x ^ x>>8*31 ^ x>>16*17) }
		for s.View().Written < int64(20*capacity) {
			v := s.View()
			p := make([]byte, 1+r.IntN(capacity-int(v.Written-v.Base)))
			for i := range p {
				p[i] = at(v.Written + int64(i))
			}
			if err := s.Write(p); err != api.OK || cap(s.held) > capacity {
				t.Fatalf("P15.2, P15.10: capacity %d: Write of %d: %d, and %d are held", capacity, len(p), err, cap(s.held))
			}
			goThrough(t, s, r, capacity, at)
		}
		if runs := s.acked.Len() + s.lost.Len(); runs > 1 {
			t.Errorf("P15.6: all is acknowledged, in %d runs", runs)
		}
	}
}

// goThrough has all pieces sent, some of them twice, and acknowledged.
func goThrough(t *testing.T, s *Send, r *rand.Rand, capacity int, at func(x int64) byte) {
	t.Helper()
	for {
		off, data, _, ok := s.Next(1+r.IntN(capacity), math.MaxInt64)
		if !ok {
			return
		}
		for i, b := range data {
			if b != at(off+int64(i)) {
				t.Fatalf("P15.12: capacity %d: the byte at %d is %d, want %d", capacity, off+int64(i), b, at(off+int64(i)))
			}
		}
		if r.IntN(3) == 0 {
			s.Lost(off, int64(len(data)), false)
			continue
		}
		s.Acked(off, int64(len(data)), false)
	}
}

// Two that are used in turns know nothing of one another.
func TestTwoInTurns(t *testing.T) {
	a, b := made(t, 6), made(t, 9)
	write(t, a, "abcdef")
	write(t, b, "ABCDEF")
	next(t, "R4", a, 4, 99, "abcd at 0")
	next(t, "R4", b, 2, 99, "AB at 0")
	a.Lost(1, 2, false)
	views(t, "R4", b, "6 2 0")
	b.Acked(0, 2, false)
	views(t, "R4", a, "6 4 0 lost 1-2")
	fin(t, a)
	write(t, b, "GHI")
	next(t, "R4", b, 99, 99, "CDEFGHI at 2")
	next(t, "R4", a, 99, 99, "bc at 1")
	next(t, "R4", a, 99, 99, "ef. at 4")
	b.Stop()
	a.Lost(0, 6, true)
	next(t, "R4", a, 99, 99, "abcdef. at 0")
	a.Acked(0, 6, true)
	views(t, "R4", a, "6 6 6 acked 0-5 Fin FinSent FinAcked Done")
	views(t, "R4", b, "9 9 2 acked 0-1 Stopped")
}

// The greatest capacity, with each second byte acknowledged and the others lost.
func TestManyRuns(t *testing.T) {
	const n = 4096
	s := made(t, api.MaxBuffer)
	write(t, s, strings.Repeat("ab", api.MaxBuffer/2))
	s.Next(math.MaxInt, math.MaxInt64)
	s.Acked(2*n, api.MaxBuffer, false)
	for x := int64(1); x < 2*n; x += 2 {
		s.Acked(x, 1, false)
	}
	s.Lost(0, api.MaxBuffer, false)
	if v := s.View(); len(v.Acked) != n || len(v.Lost) != n || v.Base != 0 {
		t.Fatalf("P15.9: %d and %d runs, Base %d", len(v.Acked), len(v.Lost), v.Base)
	}
	for x := int64(0); x < 2*n; x += 2 {
		if off, data, _, ok := s.Next(99, 0); !ok || off != x || string(data) != "a" {
			t.Fatalf("P15.4: %q at %d, want a at %d", data, off, x)
		}
		s.Acked(x, 1, false)
	}
	if v := s.View(); len(v.Acked) != 1 || v.Base != api.MaxBuffer || len(v.Lost) != 0 {
		t.Errorf("P15.6: %s", text(v))
	}
}
