package road

import (
	"runtime"
	"strings"
	"sync"
	"testing"

	"portage/api"
)

// roomy is a list of these bytes with the same ones behind it, as spare room.
func roomy(text string) []byte { return []byte(text + text)[:len(text)] }

// spoil writes over bytes, with the room behind them.
func spoil(b []byte) {
	for i := range b[:cap(b)] {
		b[:cap(b)][i] = '!'
	}
}

// spoilAll writes over an answer, to its depth.
func spoilAll(l []api.Flight) {
	for _, f := range l[:cap(l)] {
		spoil(f.Data)
	}
	for i := range l[:cap(l)] {
		l[:cap(l)][i] = api.Flight{ID: -7, To: -7, At: -7, Mark: -7, Data: []byte("spoilt")}
	}
}

// What is handed in isn't changed, nor the room behind it; nor is it kept.
func TestHandedIn(t *testing.T) {
	r := made(t, 0, 10)
	for i, text := range []string{"a", "bcd", strings.Repeat("efgh", 8), strings.Repeat("efgh", 300)} {
		b := roomy(text)
		r.Put(0, api.Server, b, api.Capable)
		if string(b[:2*len(text)]) != text+text {
			t.Errorf("R3: Put changes what it is handed: %.80q", b[:cap(b)])
		}
		spoil(b)
		if f := flightOf(t, r, i); string(f.Data) != text {
			t.Errorf("R3: Put keeps what it is handed: %.80q", f.Data)
		}
	}
	for _, c := range []struct{ to, mark, n int }{{2, 0, 4}, {0, 3, 4}, {0, 0, api.MaxMTU + 1}} {
		b := roomy(strings.Repeat("z", c.n))
		r.Put(0, c.to, b, c.mark)
		if strings.Trim(string(b[:cap(b)]), "z\x00") != "" {
			t.Error("R3: a Put that is refused changes what it is handed")
		}
	}
}

// What Take answers is the caller's own: written over it changes neither what is under way nor another answer, nor another part of it.
func TestTakenIsNewMemory(t *testing.T) {
	r := made(t, 0, 10)
	text := strings.Repeat("abcdefgh", 5)
	put(t, r, 0, api.Server, text, api.Capable, 0)
	for id := 1; id < 6; id++ {
		double(t, r, id-1, int64(10+id), id)
	}
	first := r.Take(12)
	for i, f := range first {
		if string(f.Data) != text {
			t.Errorf("R3: datagram %d of an answer was changed by another: %q", i, f.Data)
		}
		spoil(f.Data)
		_ = append(f.Data, "!!!!!!!!"...)
	}
	second := r.Take(13)
	if got := tell(second); got != "3s13+"+text {
		t.Errorf("R3: an answer changes another: %s", got)
	}
	spoilAll(first)
	spoilAll(second)
	holds(t, "R3: what was taken is written over", r, "4s14+"+text+" 5s15+"+text)
	takes(t, "R3: what was taken is written over", r, 15, "4s14+"+text+" 5s15+"+text)
}

// So is what All gives, in the midst of a range too.
func TestGivenIsNewMemory(t *testing.T) {
	r := made(t, 0, 10)
	put(t, r, 0, api.Server, "abcd", api.Capable, 0)
	double(t, r, 0, 11, 1)
	double(t, r, 1, 12, 2)
	const want = "0s10+abcd 1s11+abcd 2s12+abcd"
	for range 2 {
		var l []api.Flight
		for f := range r.All() {
			for g := range r.All() {
				spoil(g.Data)
			}
			l = append(l, f)
			spoilAll(r.Take(10))
		}
		if got := tell(l); got != want && got != want[len("0s10+abcd "):] {
			t.Errorf("R3: what All gives was changed: %s", got)
		}
		for _, f := range l {
			spoil(f.Data)
		}
	}
	takes(t, "R3: what All gave is written over", r, 12, "1s11+abcd 2s12+abcd")
}

// Two roads know nothing of one another, nor does a road of what others are asked at the same time.
func TestRoadsAreApart(t *testing.T) {
	a, b := made(t, 0, 10), made(t, 50, 20)
	put(t, a, 5, api.Server, "a", api.Capable, 0)
	put(t, b, 0, api.Client, "b", api.Unmarked, 0)
	double(t, a, 0, 40, 1)
	is(t, "W2: Mark(0)", a.Mark(0), api.OK)
	is(t, "W2: Lose(1)", b.Lose(1), api.ErrNone)
	holds(t, "R4", a, "0s15!a 1s40+a")
	holds(t, "R4", b, "0c70-b")
	takes(t, "R4", a, 1000, "0s15!a 1s40+a")
	takes(t, "R4", b, 0, "")
	holds(t, "R4", b, "0c70-b")
	var wait sync.WaitGroup
	for range 8 {
		wait.Go(func() {
			r, _ := New(0, 10)
			for i := range 300 {
				r.Put(int64(i), i%2, []byte("x"), i%3)
				r.Double(i, int64(i))
				r.Take(int64(i))
			}
			if n := r.Len(); n != 10 {
				t.Errorf("R4: %d are left, want 10", n)
			}
		})
	}
	wait.Wait()
}

// The same calls get the same answers, nil handed in as well as an empty list.
func TestSameAnswers(t *testing.T) {
	play := func(none []byte) string {
		r := made(t, 0, 10)
		r.Put(0, 0, none, 1)
		r.Put(0, 1, []byte("x"), 1)
		r.Double(0, 9)
		return tell(r.Take(9)) + ", " + tell(r.Take(10))
	}
	const want = "2c9+, 0c10+ 1s10+x"
	for _, none := range [][]byte{nil, {}, []byte("spare")[:0]} {
		if got := play(none); got != want {
			t.Errorf("R3: with %v: %s, want %s", none, got, want)
		}
	}
}

// Of what has gone nothing is kept.
func TestGoneIsNotKept(t *testing.T) {
	r := made(t, 0, 10)
	var before, after runtime.MemStats
	b := make([]byte, api.MaxMTU)
	round := func() {
		for r.Len() < api.MaxFlight {
			r.Put(0, 0, b, 0)
		}
		for f := range r.All() {
			if f.ID%2 == 0 {
				r.Lose(f.ID)
			}
		}
		r.Take(api.MaxTime)
		for id := r.next - api.MaxFlight; id < r.next; id++ {
			r.Lose(id)
		}
	}
	runtime.GC()
	runtime.ReadMemStats(&before)
	for range 3 {
		round()
	}
	runtime.GC()
	runtime.ReadMemStats(&after)
	if r.Len() != 0 || after.HeapAlloc > before.HeapAlloc+4<<20 {
		t.Errorf("of %d datagrams that are gone %d bytes are kept", r.next, int64(after.HeapAlloc)-int64(before.HeapAlloc))
	}
	runtime.KeepAlive(r)
}
