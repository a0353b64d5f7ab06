package hand

import (
	"testing"

	"portage/api"
)

// roomy is a list of these bytes with the same ones behind it, as spare room.
func roomy(text string) []byte { return []byte(text + text)[:len(text)] }

// spoil writes over bytes, with the room behind them.
func spoil(p []byte) {
	for i := range p[:cap(p)] {
		p[:cap(p)][i] = '!'
	}
}

func spoilFrame(f api.Frame) {
	spoil(f.Data)
	for i := range f.Runs[:cap(f.Runs)] {
		f.Runs[:cap(f.Runs)][i] = api.Run{Lo: -7, Hi: 77}
	}
}

// R3: what is handed in isn't changed, nor the room behind it, nor kept: whether it is whole, cut, behind a gap, wrong or passed over.
func TestHandedIn(t *testing.T) {
	s := server(t)
	for _, x := range []struct {
		space int
		off   int64
		text  string
		code  api.Code
	}{
		{api.Handshake, 0, "\x04\x00", api.CodeNone}, {api.Initial, 8, "zz", api.CodeNone}, {api.Initial, 3, helloBytes[3:], api.CodeNone},
		{api.Initial, 0, helloBytes[:2], api.CodeNone}, {api.Initial, 4090, "abcdefgh", api.CodeCrypto}, {api.Initial, -1, "abc", api.CodeProtocol},
		{api.Initial, 1, helloBytes[1:4], api.CodeNone}, {api.Handshake, 0, doneBytes, api.CodeNone}, {api.Initial, 6, "\x09\x09", api.CodeHand},
		{api.Initial, 0, "", api.CodeHand},
	} {
		f := api.Frame{Kind: api.KCrypto, Offset: x.off, Data: roomy(x.text), Runs: make([]api.Run, 1, 3)}
		if code := s.Take(x.space, f); code != x.code {
			t.Errorf("R3: Take(%d, %d, %q) = %#x, want %#x", x.space, x.off, x.text, code, x.code)
		}
		if string(f.Data[:2*len(x.text)]) != x.text+x.text || f.Runs[:3][2] != (api.Run{}) {
			t.Errorf("R3: Take has changed what it was handed: %q", f.Data[:2*len(x.text)])
		}
		unchanged(t, "R3: what was handed in is written over", s, func() { spoilFrame(f) })
	}
	stands(t, "R3", s, [api.Spaces]bool{true, true, true}, true, &ours)
	f := api.Frame{Kind: api.KCrypto, Size: 1, Data: roomy("zz")[:1], Runs: make([]api.Run, 1, 2)}
	s.Next(api.Initial, 1200)
	s.Acked(api.Initial, f)
	s.Lost(api.Handshake, f)
	if string(f.Data[:4]) != "zzzz" || f.Runs[:2][1] != (api.Run{}) {
		t.Errorf("R3: Acked or Lost has changed what it was handed: %q", f.Data[:4])
	}
	unchanged(t, "R3: what was handed in is written over", s, func() { spoilFrame(f) })
}

// R3: what is answered is new memory, spare room too.
func TestAnswered(t *testing.T) {
	s := greeted(t)
	all := termsBytes + doneBytes
	for range 3 {
		for _, room := range []int{9, 7, 1200} {
			f, ok := s.Next(api.Handshake, room)
			if !ok || string(f.Data) != all[f.Offset:f.Offset+int64(len(f.Data))] {
				t.Fatalf("R3: Next(%d): %+v, %v", room, f, ok)
			}
			g, ok := s.Next(api.Initial, 6)
			text := string(g.Data)
			spoilFrame(f)
			if string(g.Data) != text {
				t.Error("R3: two answers share memory")
			}
			unchanged(t, "R3: what was answered is written over", s, func() { spoilFrame(f); spoilFrame(g) })
		}
		s.Lost(api.Handshake, kept(0, 10))
		s.Lost(api.Initial, kept(0, 2))
	}
	tells(t, "R3", s, api.Handshake, 1200, 0, all)
	// Terms are handed in and answered as values.
	own := ours
	c := made(t, api.Client, own)
	own.Data = 7
	tells(t, "R3", c, api.Initial, 1200, 0, helloBytes)
	p, _ := s.Peer()
	p.Data = 7
	if p, _ := s.Peer(); p != ours {
		t.Errorf("R3: Peer: %+v", p)
	}
}

// A nil list and an empty one are the same, handed in.
func TestNil(t *testing.T) {
	a, b := client(t), client(t)
	for _, off := range []int64{-1, 0, 1, 2, 4096, 4097} {
		if x, y := a.Take(api.Initial, api.Frame{Kind: api.KCrypto, Offset: off}), b.Take(api.Initial, crypto(off, "")); x != y {
			t.Errorf("R3: at %d: %#x, %#x", off, x, y)
		}
	}
	if picture(a) != picture(b) {
		t.Error("R3: nil and empty")
	}
}

// R4: two ends that are used in turns know nothing of one another: each is as one that is used alone.
func TestInTurns(t *testing.T) {
	steps := func(h *Hand, other bool) []func() {
		text := helloBytes
		if other {
			text = message(1, 2, 3, "\x08\x01\x07")
		}
		return []func(){
			func() { h.Take(api.Initial, crypto(3, text[3:])) },
			func() { h.Take(api.Initial, crypto(0, text[:3])) },
			func() { h.Next(api.Initial, 6) },
			func() { h.Next(api.Handshake, 9) },
			func() { h.Lost(api.Handshake, kept(1, 2)) },
			func() { h.Acked(api.Initial, kept(0, 1)) },
			func() { h.Take(api.Handshake, crypto(0, doneBytes)) },
			func() { h.Drop(api.Initial) },
			func() { h.Next(api.Handshake, 1200) },
		}
	}
	alone := func(other bool) *Hand {
		h := server(t)
		for _, do := range steps(h, other) {
			do()
		}
		return h
	}
	a, b := server(t), server(t)
	first, second := steps(a, false), steps(b, true)
	for i := range first {
		unchanged(t, "R4: the other end", b, first[i])
		unchanged(t, "R4: the other end", a, second[i])
	}
	if picture(a) != picture(alone(false)) || picture(b) != picture(alone(true)) {
		t.Error("R4: in turns it is otherwise than alone")
	}
}
