package streams

import (
	"fmt"
	"testing"

	"portage/api"
)

// roomy is a list of these bytes with the same ones behind it, as spare room.
func roomy(text string) []byte { return []byte(text + text)[:len(text)] }

// spoil writes over bytes, with the room behind them.
func spoil(p []byte) {
	for i := range p[:cap(p)] {
		p[:cap(p)][i] = '!'
	}
}

func spoilRuns(l []api.Run) {
	for i := range l[:cap(l)] {
		l[:cap(l)][i] = api.Run{Lo: -7, Hi: 77}
	}
}

func spoilIDs(l []int64) {
	for i := range l[:cap(l)] {
		l[:cap(l)][i] = -9
	}
}

// What is handed in isn't changed, nor the room behind it; nor is it kept.
func TestHandedIn(t *testing.T) {
	s := met(t, api.Client, ample(), ample())
	opens(t, "P18.3", s, false, 0)
	for _, text := range []string{"abc", "defg", ""} {
		p := roomy(text)
		if err := s.Write(0, p); err != api.OK || string(p[:2*len(text)]) != text+text {
			t.Errorf("P18.17: Write: %d, %q", err, p[:2*len(text)])
		}
		spoil(p)
	}
	tells(t, "P18.17: what was written is written over", s, piece(0, 0, "abcdefg"))
	for _, x := range []struct {
		off  int64
		text string
		code api.Code
	}{{3, "def", 0}, {0, "abc", 0}, {4, "XXX", 0}, {95, "abcdef", api.CodeFlow}, {7, "h", 0}} {
		f := api.Frame{Kind: api.KStream, Stream: 1, Offset: x.off, Data: roomy(x.text), Runs: make([]api.Run, 0, 3)}
		if code := s.Take(f); code != x.code || string(f.Data[:2*len(x.text)]) != x.text+x.text || f.Runs[:3][2] != (api.Run{}) {
			t.Errorf("P18.17: Take: %d, %q", code, f.Data[:2*len(x.text)])
		}
		spoil(f.Data)
		spoilRuns(f.Runs)
	}
	reads(t, "P18.17: what was taken is written over", s, 1, 99, "abcdefXh")
	// Frames of what went: neither changed nor kept.
	f := api.Frame{Kind: api.KStream, Offset: 1, Size: 2, Data: roomy("zz")[:0], Runs: make([]api.Run, 0, 2)}
	s.Lost(f)
	s.Acked(f)
	s.Lost(f)
	if string(f.Data[:4]) != "zzzz" || f.Runs[:2][0] != (api.Run{}) {
		t.Errorf("P18.17: Acked, Lost: %q", f.Data[:4])
	}
}

// What is answered is the caller's own: written over, it changes nothing, neither what is held nor another answer.
func TestAnsweredIsNewMemory(t *testing.T) {
	s := met(t, api.Client, ample(), ample())
	opens(t, "P18.3", s, false, 0)
	opens(t, "P18.3", s, false, 4)
	writes(t, "P18.5", s, 0, "abcdefgh")
	one := tellsIn(t, "P18.12", s, 7, piece(0, 0, "abcd"))
	two := tells(t, "P18.12", s, piece(0, 4, "efgh"))
	unchanged(t, "P18.17: Next", s, func() {
		_ = append(one.Data, "!!!!!!"...)
		spoil(one.Data)
	})
	if string(two.Data) != "efgh" {
		t.Errorf("P18.17: two pieces share memory: %q", two.Data)
	}
	s.Lost(went(0, 0, 6, false))
	tells(t, "P18.17", s, piece(0, 0, "abcdef"))
	s.Lost(went(0, 1, 1, false))
	s.Acked(went(0, 3, 1, false))
	takes(t, "P18.10", s, piece(0, 0, "uvwxyz"), piece(0, 8, "zz"))
	b, _, _ := s.Read(0, 2)
	c, _, _ := s.Read(0, 2)
	unchanged(t, "P18.17: Read", s, func() {
		_ = append(b, "!!!!!!"...)
		spoil(b)
	})
	if string(c) != "wx" {
		t.Errorf("P18.17: what was read twice shares memory: %q", c)
	}
	unchanged(t, "P18.17: IDs, View", s, func() {
		spoilIDs(s.IDs())
		for _, id := range []int64{0, 4} {
			v := view(t, "P18.16", s, id)
			w := fmt.Sprint(view(t, "P18.16", s, id))
			spoilRuns(v.Send.Acked)
			if text := fmt.Sprint(v.Send.Lost, v.Recv); text != fmt.Sprint(view(t, "P18.16", s, id).Send.Lost, view(t, "P18.16", s, id).Recv) {
				t.Errorf("P18.17: lists of one view share memory: %s", text)
			}
			spoilRuns(v.Send.Lost)
			spoilRuns(v.Recv.Runs)
			if got := fmt.Sprint(view(t, "P18.16", s, id)); got != w {
				t.Errorf("P18.17: View: %s, want %s", got, w)
			}
		}
	})
	reads(t, "P18.17", s, 0, 9, "yz")
}

// Limits that are handed in are a copy.
func TestParamsAreCopied(t *testing.T) {
	own, peer := ample(), ample()
	s := met(t, api.Client, own, peer)
	unchanged(t, "R3", s, func() { own.StreamUni, peer.StreamHis = 1, 1 })
}

// What has ended is kept no longer: neither in the map, nor among what Accept may tell.
func TestEndedIsForgotten(t *testing.T) {
	s := met(t, api.Client, sized(1000, 10, 2), sized(100000, 10, 1000))
	size := 0
	for n := range int64(200) {
		id, err := s.Open(false)
		if err != api.OK || id != 4*n {
			t.Fatalf("P18.3: %d, %d", id, err)
		}
		takes(t, "P18.10", s, piece(id, 0, "abc."), piece(4*n+1, 0, "abc."), piece(4*n+3, 0, "abc."))
		for _, x := range []int64{id, id + 1, id + 3} {
			reads(t, "P18.7", s, x, 9, "abc.")
			s.Write(x, []byte("abc"))
			s.Fin(x)
		}
		for _, f := range all(s) {
			takes(t, "P18.10", s, api.Frame{Kind: api.KStreamDataBlocked, Stream: id + 1})
			s.Acked(kept(f))
		}
		open(t, "Words", s)
		held(t, "P18.16", s, 0)
		if len(s.unseen) != 0 || len(s.open) != 0 {
			t.Fatalf("language, 8: ended streams are kept: %d, %d", len(s.unseen), len(s.open))
		}
		if n == 100 {
			size = len(picture(s))
		}
	}
	if got := len(picture(s)); got > size+40 {
		t.Errorf("language, 8: more and more is kept: %d, then %d", size, got)
	}
	accepts(t, "P18.4", s)
}

// Two ends know nothing of one another (R4): played in turns, each answers as it does alone.
func TestTwoInTurns(t *testing.T) {
	script := func(s *Streams) []func() string {
		return []func() string{
			func() string { return fmt.Sprint(s.Open(false)) },
			func() string { return fmt.Sprint(s.Open(true)) },
			func() string { return fmt.Sprint(s.Open(true)) },
			func() string { return fmt.Sprint(s.Write(s.IDs()[0], []byte("abcdefghijklmnopqrstuvwxyz"))) },
			func() string { return fmt.Sprint(s.Next(9)) },
			func() string { return fmt.Sprint(s.Next(9)) },
			func() string { return fmt.Sprint(s.Take(piece(int64(1-s.role), 0, "abcdefghijk."))) },
			func() string { return fmt.Sprint(s.Read(int64(1-s.role), 10)) },
			func() string { return fmt.Sprint(s.Accept()) },
			func() string { return fmt.Sprint(s.Reset(int64(s.role), 5)) },
			func() string { return fmt.Sprint(s.Stop(int64(s.role), 5)) },
			func() string { return fmt.Sprint(all(s)) },
			func() string { return fmt.Sprint(s.Held(), s.IDs(), s.Waits()) },
			func() string { return fmt.Sprint(s.Credit()) },
		}
	}
	fresh := func(n int) *Streams {
		own := small()
		own.Data += int64(n)
		return met(t, n%2, own, own)
	}
	const many = 4
	var alone, turns [many][]string
	for n := range many {
		for _, do := range script(fresh(n)) {
			alone[n] = append(alone[n], do())
		}
	}
	var scripts [many][]func() string
	for n := range many {
		scripts[n] = script(fresh(n))
	}
	for i := range scripts[0] {
		for n := range many {
			turns[n] = append(turns[n], scripts[n][i]())
		}
	}
	if fmt.Sprint(alone) != fmt.Sprint(turns) {
		t.Errorf("R4: alone\n%s\nin turns\n%s", alone, turns)
	}
}
