package recv

import (
	"math"
	"strings"
	"testing"

	"portage/api"
)

// roomy is a list of these bytes with the same ones behind it, as spare room.
func roomy(text string) []byte {
	return []byte(text + text)[:len(text)]
}

// spoil writes over bytes, with the room behind them.
func spoil(p []byte) {
	for i := range p[:cap(p)] {
		p[:cap(p)][i] = '!'
	}
}

// spoilRuns writes over runs, with the room behind them.
func spoilRuns(l []api.Run) {
	for i := range l[:cap(l)] {
		l[:cap(l)][i] = api.Run{Lo: -7, Hi: 77}
	}
}

// What is handed in isn't changed, nor the room behind it; nor is it kept.
func TestHandedIn(t *testing.T) {
	r := made(t, 12)
	for _, c := range []struct {
		off  int64
		text string
	}{{4, "ef"}, {8, "ij"}, {3, "d..gh.."}, {0, "abc"}, {0, "..........kl"}} {
		p := roomy(c.text)
		if _, err := r.Take(c.off, p, false); err != api.OK || string(p[:2*len(c.text)]) != c.text+c.text {
			t.Errorf("R3: Take changes what it is handed: %d, %q", err, p[:2*len(c.text)])
		}
		spoil(p)
	}
	p := roomy("mn")
	if _, err := r.Take(11, p, false); err != api.ErrRecvLimit || string(p[:4]) != "mnmn" {
		t.Errorf("R3: a Take that is refused changes what it is handed: %d, %q", err, p[:4])
	}
	read(t, "R3: what was handed in is written over", r, 5, "abcde")
	p = roomy("............")
	r.Take(0, p, true)
	spoil(p)
	read(t, "R3: what was handed in is written over", r, 2, "fg")
	read(t, "R3: what was handed in is written over", r, 99, "hijkl.")
}

// Of a piece without a byte nothing is kept of the room behind it, nor is it written to.
func TestHandedInEmpty(t *testing.T) {
	r := made(t, 9)
	p := []byte("abcde")
	r.Take(0, p[:0], false)
	r.Take(2, p[2:2], false)
	r.Take(5, p[:0], true)
	take(t, "R3", r, 0, "fghij", 0)
	if string(p) != "abcde" {
		t.Errorf("R3: the room behind an empty list is written to: %q", p)
	}
	spoil(p)
	read(t, "R3", r, 9, "fghij.")
}

// What is read is the caller's own: written over, it changes nothing, neither what is held nor another answer.
func TestAnsweredIsNewMemory(t *testing.T) {
	r := made(t, 20)
	take(t, "R3", r, 0, "abcdefghij", 10)
	one, _ := r.Read(3)
	_ = append(one, "!!!!!!!!!!"...)
	spoil(one)
	two, _ := r.Read(3)
	take(t, "R3", r, 10, "klm", 3)
	three, _ := r.Read(5)
	_ = append(two, "!!!!!!!!!!"...)
	spoil(two)
	if string(three) != "ghijk" {
		t.Errorf("R3: one answer, written over, changes another: %q", three)
	}
	spoil(three)
	read(t, "R3: what was read is written over", r, 99, "lm")
	// Just one piece, read whole.
	take(t, "R3", r, 13, "nop", 3)
	four, _ := r.Read(3)
	take(t, "R3", r, 16, "qrst.", 4)
	if string(four) != "nop" {
		t.Errorf("R3: an answer changes: %q", four)
	}
	spoil(four)
	read(t, "R3: what was read is written over", r, 99, "qrst.")
	none, _ := r.Read(9)
	spoil(none)
	views(t, "R3", r, "20: 20 20 20 0 0-19 Ended")
}

func TestViewIsNewMemory(t *testing.T) {
	r := made(t, 20)
	take(t, "R3", r, 0, "ab", 2)
	take(t, "R3", r, 4, "ef", 4)
	take(t, "R3", r, 8, "ij", 4)
	const want = "20: 0 10 -1 6 0-1 4-5 8-9"
	for range 2 {
		v, again := r.View(), r.View()
		_ = append(v.Runs, api.Run{Lo: 1, Hi: 2})
		spoilRuns(v.Runs)
		if tell(again) != want {
			t.Errorf("R3: Runs of a View, written over, change another one: %s", tell(again))
		}
		views(t, "R3: Runs of a View, written over", r, want)
	}
	take(t, "R3: Runs of a View, written over", r, 0, "....efghij", 0)
	read(t, "R3: Runs of a View, written over", r, 99, "ab..efghij")
}

// A View that was told stays as it was, whatever comes behind it.
func TestViewStays(t *testing.T) {
	r := made(t, 20)
	take(t, "R3", r, 2, "cd", 4)
	take(t, "R3", r, 6, "gh", 4)
	v := r.View()
	take(t, "R3", r, 0, "abcdefghij.", 2)
	r.Read(7)
	r.Raise(30)
	r.Reset(10)
	if got := tell(v); got != "20: 0 8 -1 4 2-3 6-7" {
		t.Errorf("R3: a View changes: %s", got)
	}
}

// Two that are used in turns know nothing of one another.
func TestTwoInTurns(t *testing.T) {
	a, b := made(t, 9), made(t, 6)
	take(t, "R4", a, 2, "cd", 4)
	take(t, "R4", b, 0, "ABC", 3)
	take(t, "R4", a, 0, "ab", 0)
	read(t, "R4", b, 2, "AB")
	views(t, "R4", a, "9: 0 4 -1 4 0-3")
	read(t, "R4", a, 3, "abc")
	views(t, "R4", b, "6: 2 3 -1 1 0-2")
	a.Raise(12)
	refused(t, "R4", b, 6, "G", api.ErrRecvLimit)
	take(t, "R4", b, 3, "DEF.", 3)
	take(t, "R4", a, 6, "ghi", 5)
	reset(t, "R4", a, 10, 1)
	read(t, "R4", b, 99, "CDEF.")
	views(t, "R4", a, "12: 3 10 10 0 0-2 Reset")
	views(t, "R4", b, "6: 6 6 6 0 0-5 Ended")
}

// kept is how many bytes of memory the pieces have that are held.
func kept(r *Recv) int64 {
	n := 0
	for _, p := range r.held {
		n += cap(p.data)
	}
	return int64(n)
}

// Bytes are held no longer than till they are read: of one piece that is read bit by bit at most as many more as are left of it.
func TestHeld(t *testing.T) {
	for _, most := range []int{1, 2, 3, 7, 100, 999, 1000} {
		r := made(t, 5000)
		for off := int64(0); off < 3000; off += 1000 {
			r.Take(off, make([]byte, 1000), false)
		}
		for r.View().Held > 0 {
			list := r.held
			r.Read(most)
			for _, p := range list {
				if p.data != nil && p.end() <= r.read {
					t.Fatalf("P16.3: %d bytes at a time: a piece that was read to %d hangs on the list", most, p.end())
				}
			}
			if held := r.View().Held; kept(r) > 2*held {
				t.Fatalf("P16.3: %d bytes at a time: %d bytes are held, in %d bytes of memory", most, held, kept(r))
			}
		}
		if r.held != nil {
			t.Errorf("P16.3: all were read, and there is a list of %d pieces", cap(r.held))
		}
	}
	// Of what came first nothing is held twice.
	r := made(t, 5000)
	for _, c := range [][2]int64{{100, 200}, {300, 400}, {0, 1000}, {0, 1000}, {50, 1200}, {400, 500}} {
		r.Take(c[0], make([]byte, c[1]-c[0]), false)
	}
	if kept(r) != 1200 || r.View().Held != 1200 {
		t.Errorf("P16.9: %d bytes are held, in %d bytes of memory, want 1200", r.View().Held, kept(r))
	}
	r.Reset(1200)
	if kept(r) != 0 || r.held != nil {
		t.Errorf("P16.5: it was reset, and %d bytes are held", kept(r))
	}
	r.Take(0, make([]byte, 1200), true)
	if kept(r) != 0 || r.held != nil {
		t.Errorf("P16.2: it was reset, and %d bytes are held", kept(r))
	}
}

// A window full of bytes that come and are read one by one, each of them a piece.
func TestManyPieces(t *testing.T) {
	const n = 1 << 17
	r := made(t, n)
	for x := range int64(n) {
		r.Take(x, []byte{byte(x % 251)}, x == n-1)
	}
	if v := r.View(); v.Held != n || len(v.Runs) != 1 {
		t.Fatalf("P16.6: %d are held, in %d runs", v.Held, len(v.Runs))
	}
	for x := range int64(n) {
		if data, end := r.Read(1); len(data) != 1 || data[0] != byte(x%251) || end != (x == n-1) {
			t.Fatalf("P16.8: %v, %v is read at %d", data, end, x)
		}
	}
}

// A window full, of which each second byte has come, and then all of them at once; then it is read.
func TestManyHoles(t *testing.T) {
	const n = 1 << 17
	r := made(t, n)
	for x := int64(1); x < n; x += 2 {
		r.Take(x, []byte("b"), false)
	}
	if v := r.View(); v.Held != n/2 || len(v.Runs) != n/2 || v.High != n {
		t.Fatalf("P16.6: %d are held, in %d runs", v.Held, len(v.Runs))
	}
	take(t, "P16.2", r, 0, strings.Repeat("a", n)+".", 0)
	if v := r.View(); v.Held != n || len(v.Runs) != 1 || v.High != n {
		t.Fatalf("P16.6: %d are held, in %d runs", v.Held, len(v.Runs))
	}
	read(t, "P16.10", r, math.MaxInt, strings.Repeat("ab", n/2)+".")
}

// One piece of a whole window, read byte by byte.
func TestOneGreatPiece(t *testing.T) {
	const n = api.MaxWindow
	r := made(t, n)
	text := strings.Repeat("portage ", n/8)
	take(t, "P16.2", r, 0, text+".", n)
	for x := range n {
		if data, end := r.Read(1); string(data) != text[x:x+1] || end != (x == n-1) {
			t.Fatalf("P16.8: %q, %v is read at %d", data, end, x)
		}
	}
}
