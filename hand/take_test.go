package hand

import (
	"fmt"
	"math"
	"strings"
	"testing"

	"portage/api"
	"portage/params"
)

// H3: CodeProtocol, of what it doesn't take at all, whatever else is so.
func TestTakeProtocol(t *testing.T) {
	for _, h := range []*Hand{client(t), server(t), answered(t), greeted(t)} {
		for _, space := range elsewhere {
			takes(t, "H3: another space", h, space, 0, "\x02\x00", api.CodeProtocol)
			takes(t, "H3: another space", h, space, 1<<62, "", api.CodeProtocol)
		}
		for _, space := range []int{api.Initial, api.Handshake} {
			for kind := -1; kind < 0x20; kind++ {
				f := crypto(0, helloBytes)
				if f.Kind = kind; kind == api.KCrypto {
					continue
				}
				unchanged(t, "H3: another kind", h, func() {
					if code := h.Take(space, f); code != api.CodeProtocol {
						t.Errorf("H3: a frame of the kind %d: %#x", kind, code)
					}
				})
			}
			for _, off := range []int64{-1, -2, -4096, -api.MaxNumber, math.MinInt64, math.MinInt64 + 1} {
				takes(t, "H3: below 0", h, space, off, "", api.CodeProtocol)
				takes(t, "H3: below 0", h, space, off, answerBytes, api.CodeProtocol)
			}
			h.Drop(space)
			takes(t, "H3: below 0, dropped", h, space, -1, "", api.CodeProtocol)
			if h.Take(space, api.Frame{Kind: api.KPing}) != api.CodeProtocol {
				t.Error("H3: another kind, dropped")
			}
		}
	}
}

// H3: a space that isn't open: nothing, whatever it is.
func TestTakeNotOpen(t *testing.T) {
	for _, h := range []*Hand{client(t), server(t)} {
		unchanged(t, "H3: not open", h, func() {
			for _, off := range []int64{0, 1, 4095, 4096, 4097, api.MaxNumber, math.MaxInt64} {
				takes(t, "H3: not open", h, api.Handshake, off, "", api.CodeNone)
				takes(t, "H3: not open", h, api.Handshake, off, "\x09\x09", api.CodeNone)
			}
		})
	}
	// What came while it wasn't open has to come again.
	c := client(t)
	takes(t, "H3", c, api.Handshake, 0, termsBytes+doneBytes, api.CodeNone)
	takes(t, "H3", c, api.Initial, 0, answerBytes, api.CodeNone)
	stands(t, "H3: nothing has come", c, [api.Spaces]bool{true, true}, false, nil)
	takes(t, "H3", c, api.Handshake, 0, termsBytes+doneBytes, api.CodeNone)
	stands(t, "H3: it has come again", c, [api.Spaces]bool{true, true, true}, true, &theirs)
}

// H3: the end of what comes is at most MaxCrypto behind the messages that were read.
func TestTakeTooFar(t *testing.T) {
	far := []int64{4097, 4098, 5000, api.MaxNumber - 1, api.MaxNumber, api.MaxNumber + 1, math.MaxInt64 - 1, math.MaxInt64}
	for _, h := range []*Hand{client(t), server(t)} {
		for _, end := range far {
			takes(t, "H3: no byte, too far", h, api.Initial, end, "", api.CodeCrypto)
			takes(t, "H3: too far", h, api.Initial, end-1, "x", api.CodeCrypto)
			takes(t, "H3: too far", h, api.Initial, end-3, "xyz", api.CodeCrypto)
		}
		takes(t, "H3: no room for what would be right", h, api.Initial, 0, answerBytes+strings.Repeat("z", 4095), api.CodeCrypto)
		takes(t, "H3: no byte, at the end", h, api.Initial, 4096, "", api.CodeNone)
		takes(t, "H3: at the end", h, api.Initial, 4095, "x", api.CodeNone)
		takes(t, "H3: beside it", h, api.Initial, 4093, "xyz", api.CodeNone)
		takes(t, "H3: once more", h, api.Initial, 4095, "xy", api.CodeCrypto)
	}
	// The end goes on with what was read, message by message.
	c := answered(t)
	takes(t, "H3: behind ANSWER", c, api.Initial, 4097, "xy", api.CodeCrypto)
	takes(t, "H3: behind ANSWER", c, api.Initial, 4097, "x", api.CodeNone)
	takes(t, "H3: the other space", c, api.Handshake, 4096, "x", api.CodeCrypto)
	takes(t, "H3: part of TERMS", c, api.Handshake, 0, termsBytes[:7], api.CodeNone)
	takes(t, "H3: part of TERMS isn't read", c, api.Handshake, 4096, "x", api.CodeCrypto)
	takes(t, "H3: TERMS", c, api.Handshake, 7, termsBytes[7:], api.CodeNone)
	takes(t, "H3: behind TERMS", c, api.Handshake, 4104, "x", api.CodeCrypto)
	takes(t, "H3: behind TERMS", c, api.Handshake, 4103, "x", api.CodeNone)
	takes(t, "H3: DONE", c, api.Handshake, 8, doneBytes, api.CodeNone)
	takes(t, "H3: behind DONE", c, api.Handshake, 4106, "x", api.CodeCrypto)
	takes(t, "H3: behind DONE", c, api.Handshake, 4105, "x", api.CodeNone)
	takes(t, "H3: nothing behind DONE", c, api.Handshake, 4107, "", api.CodeCrypto)
	// It doesn't go on with a message that isn't taken.
	s := server(t)
	takes(t, "H3", s, api.Initial, 0, "\x01\x01\xff", api.CodeParams)
	takes(t, "H3", s, api.Initial, 4096, "x", api.CodeCrypto)
	takes(t, "H3", s, api.Initial, 4095, "x", api.CodeParams)
	// What was read may come again, from where it will.
	s = greeted(t)
	takes(t, "H3: once more", s, api.Initial, 0, helloBytes, api.CodeNone)
	takes(t, "H3: part of it", s, api.Initial, 3, helloBytes[3:], api.CodeNone)
	takes(t, "H3: otherwise", s, api.Initial, 0, "zzzzzz", api.CodeNone)
}

// H3: bytes that are there stay as they came first.
func TestTakeFirst(t *testing.T) {
	s := server(t)
	takes(t, "H3", s, api.Initial, 1, "\x04\x04", api.CodeNone)
	takes(t, "H3", s, api.Initial, 5, "\xe8", api.CodeNone)
	takes(t, "H3", s, api.Initial, 0, "\x01\x00\x09\x02\x43\x09", api.CodeNone)
	stands(t, "H3: as they came first", s, [api.Spaces]bool{true, true}, false, &ours)
	// Also where the first ones are wrong.
	s = server(t)
	takes(t, "H3", s, api.Initial, 1, "\x41\x91", api.CodeNone)
	takes(t, "H3", s, api.Initial, 0, helloBytes, api.CodeHand)
	takes(t, "H3", s, api.Initial, 0, helloBytes, api.CodeHand)
	stands(t, "H3: wrong ones stay, too", s, [api.Spaces]bool{true}, false, nil)
}

// H3, 1: a kind that isn't due, as soon as it is there.
func TestTakeKind(t *testing.T) {
	for _, x := range []struct {
		say   string
		h     func(*testing.T) *Hand
		space int
		ahead string
		due   int
	}{
		{"a client's Initial", client, api.Initial, "", 2},
		{"a client's Initial, behind the last", client, api.Initial, answerBytes, -1},
		{"a client's Handshake", answered, api.Handshake, "", 3},
		{"a client's Handshake, behind TERMS", answered, api.Handshake, termsBytes, 4},
		{"a client's Handshake, behind the last", answered, api.Handshake, termsBytes + doneBytes, -1},
		{"a server's Initial", server, api.Initial, "", 1},
		{"a server's Initial, behind the last", server, api.Initial, helloBytes, -1},
		{"a server's Handshake", greeted, api.Handshake, "", 4},
		{"a server's Handshake, behind the last", greeted, api.Handshake, doneBytes, -1},
	} {
		for kind := range 256 {
			want := api.CodeHand
			if kind == x.due {
				want = api.CodeNone
			}
			say := fmt.Sprintf("H3: %s: the kind %d", x.say, kind)
			h := x.h(t)
			takes(t, say, h, x.space, 0, x.ahead+string([]byte{byte(kind)}), want)
			// Behind the code all goes on: the kind is there, whatever comes.
			takes(t, say, h, x.space, 0, "", want)
			takes(t, say, h, x.space, 0, x.ahead, want)
			takes(t, say, h, x.space, int64(len(x.ahead))+2, "zz", want)
			// The message ahead of it was taken, and byte by byte it is the same.
			g := x.h(t)
			for i := range x.ahead {
				takes(t, say, g, x.space, int64(i), x.ahead[i:i+1], api.CodeNone)
			}
			takes(t, say, g, x.space, int64(len(x.ahead)), string([]byte{byte(kind)}), want)
			takes(t, say, g, x.space, int64(len(x.ahead))+2, "zz", want)
			if picture(h) != picture(g) {
				t.Errorf("%s: cut otherwise it is otherwise:\n%s\n%s", say, picture(h), picture(g))
			}
		}
	}
}

// H3, 2: a length that may not be, as soon as it is there, whatever else is.
func TestTakeLength(t *testing.T) {
	for _, width := range []int{2, 4, 8} {
		for _, size := range []int{401, 402, 500, 16383} {
			for _, x := range []struct {
				h    *Hand
				sp   int
				kind byte
			}{{server(t), api.Initial, 1}, {answered(t), api.Handshake, 3}} {
				say := fmt.Sprintf("H3: a length of %d in %d bytes", size, width)
				m := message(x.kind, width, size, "")
				takes(t, say, x.h, x.sp, 0, m[:width], api.CodeNone)
				takes(t, say, x.h, x.sp, int64(width), m[width:], api.CodeHand)
				takes(t, say, x.h, x.sp, 40, "z", api.CodeHand)
				takes(t, say, x.h, x.sp, int64(1+width), strings.Repeat("\x02\x00", 20), api.CodeHand)
			}
		}
	}
	takes(t, "H3: the greatest length", server(t), api.Initial, 0, "\x01\xff\xff\xff\xff\xff\xff\xff\xff", api.CodeHand)
	takes(t, "H3: a length that overflows", server(t), api.Initial, 0, "\x01\xc0\x00\x00\x01\x00\x00\x00\x01z", api.CodeHand)
	for _, width := range []int{1, 2, 4, 8} {
		for _, size := range []int{0, 1, 2, 63, 400, 401} {
			if width == 1 && size > 63 {
				continue
			}
			want := api.CodeHand
			if size == 0 {
				want = api.CodeNone
			}
			say := fmt.Sprintf("H3: without a body, a length of %d in %d bytes", size, width)
			takes(t, say+", ANSWER", client(t), api.Initial, 0, message(2, width, size, ""), want)
			takes(t, say+", DONE", greeted(t), api.Handshake, 0, message(4, width, size, ""), want)
			takes(t, say+", DONE behind TERMS", answered(t), api.Handshake, 0, termsBytes+message(4, width, size, ""), want)
		}
	}
}

// H3: a length in each form, bodies of each size up to 400.
func TestTakeSizes(t *testing.T) {
	for _, width := range []int{1, 2, 4, 8} {
		for _, size := range []int{0, 3, 62, 63, 64, 65, 66, 399, 400} {
			if width == 1 && size > 63 {
				continue
			}
			body, want := "", params.Default()
			if size > 0 {
				body = long(size)
			}
			say := fmt.Sprintf("H3: a body of %d, its length in %d bytes", size, width)
			s, m := server(t), message(1, width, size, body)
			takes(t, say, s, api.Initial, 0, m[:len(m)-1], api.CodeNone)
			stands(t, say+", but for a byte", s, [api.Spaces]bool{true}, false, nil)
			takes(t, say, s, api.Initial, int64(len(m))-1, m[len(m)-1:], api.CodeNone)
			stands(t, say, s, [api.Spaces]bool{true, true}, false, &want)
			takes(t, say+": read up to its end", s, api.Initial, int64(len(m))+4095, "xx", api.CodeCrypto)
			takes(t, say+": read up to its end", s, api.Initial, int64(len(m))+4095, "x", api.CodeNone)
			c := answered(t)
			takes(t, say, c, api.Handshake, 0, message(3, width, size, body)+message(4, width, 0, ""), api.CodeNone)
			stands(t, say, c, [api.Spaces]bool{true, true, true}, true, &want)
		}
	}
}

// H3, 3: a body that Decode refuses, when it is there whole.
func TestTakeParams(t *testing.T) {
	for _, body := range []string{"\xff", "\x04", "\x04\x02\x43", "\x08\x01\x21", "\x02\x00\x02\x00", "\x04\x01\x43", "\x04\x02\x05\x06", "\x0a\x01\x15", long(400)[:399]} {
		if _, err := params.Decode([]byte(body)); err == api.OK {
			t.Fatalf("%q may be", body)
		}
		for _, x := range []struct {
			say   string
			h     *Hand
			space int
			kind  byte
			open  [api.Spaces]bool
			held  int64
		}{
			{"HELLO", server(t), api.Initial, 1, [api.Spaces]bool{true}, 0},
			{"TERMS", answered(t), api.Handshake, 3, [api.Spaces]bool{true, true}, 6},
		} {
			say := fmt.Sprintf("H3: %s with %d bytes", x.say, len(body))
			width := 1
			if len(body) > 63 {
				width = 2
			}
			m := message(x.kind, width, len(body), body)
			takes(t, say, x.h, x.space, 0, m[:len(m)-1], api.CodeNone)
			takes(t, say, x.h, x.space, int64(len(m))-1, m[len(m)-1:], api.CodeParams)
			stands(t, say+": it wasn't taken", x.h, x.open, false, nil)
			holds(t, say+": its bytes have come", x.h, x.held+int64(len(m)))
			silent(t, say+": nothing stands", x.h, api.Handshake)
			takes(t, say+": all goes on", x.h, x.space, int64(len(m)), "\x04\x00", api.CodeParams)
			takes(t, say+": all goes on", x.h, x.space, 4096, "\x04\x00", api.CodeCrypto)
			takes(t, say+": all goes on", x.h, x.space, 0, "", api.CodeParams)
			holds(t, say+": its bytes have come", x.h, x.held+int64(len(m))+2)
		}
	}
	// Behind wrong terms nothing is looked at: no code but that of the first that is wrong.
	takes(t, "H3: the first that is wrong", answered(t), api.Handshake, 0, "\x03\x01\xff\x09", api.CodeParams)
	takes(t, "H3: the first that is wrong", answered(t), api.Handshake, 0, "\x04\x01\xff\x03\x01\xff", api.CodeHand)
}

// H3: the messages ahead of a wrong one are taken, and all calls go on behind the code.
func TestTakeAheadOfWrong(t *testing.T) {
	s := server(t)
	takes(t, "H3", s, api.Initial, 0, helloBytes+"\x01\x00", api.CodeHand)
	stands(t, "H3: HELLO was taken", s, [api.Spaces]bool{true, true}, false, &ours)
	holds(t, "H3", s, 2+2+10)
	tells(t, "H3", s, api.Initial, 1200, 0, answerBytes)
	tells(t, "H3", s, api.Handshake, 1200, 0, termsBytes+doneBytes)
	takes(t, "H3", s, api.Handshake, 0, doneBytes+"\x00", api.CodeHand)
	stands(t, "H3: DONE was taken", s, [api.Spaces]bool{true, true, true}, true, &ours)
	takes(t, "H3: still wrong", s, api.Initial, 0, helloBytes, api.CodeHand)

	c := answered(t)
	takes(t, "H3", c, api.Handshake, 0, termsBytes+"\x03", api.CodeHand)
	stands(t, "H3: TERMS was taken", c, [api.Spaces]bool{true, true}, false, &theirs)
	takes(t, "H3", c, api.Handshake, 8, doneBytes, api.CodeHand)
	stands(t, "H3: the wrong byte came first", c, [api.Spaces]bool{true, true}, false, &theirs)
	silent(t, "H3", c, api.Handshake)

	c = answered(t)
	takes(t, "H3", c, api.Handshake, 0, termsBytes+doneBytes+"\x00", api.CodeHand)
	stands(t, "H3: both were taken", c, [api.Spaces]bool{true, true, true}, true, &theirs)
	tells(t, "H3: its own DONE", c, api.Handshake, 1200, 0, doneBytes)
}

// H3: the messages come to be taken however they are cut, and in whatever order.
func TestTakeAnyCut(t *testing.T) {
	for bits := range 1 << 9 {
		c := answered(t)
		off := int64(0)
		for _, p := range cutAt(termsBytes+doneBytes, bits) {
			takes(t, "H3", c, api.Handshake, off, p, api.CodeNone)
			off += int64(len(p))
		}
		stands(t, "H3: cut otherwise", c, [api.Spaces]bool{true, true, true}, true, &theirs)
	}
	for _, order := range orders(6) {
		s := server(t)
		for i, at := range order {
			takes(t, "H3", s, api.Initial, int64(at), helloBytes[at:at+1], api.CodeNone)
			takes(t, "H3: twice", s, api.Initial, int64(at), helloBytes[at:at+1], api.CodeNone)
			if i < 5 {
				stands(t, "H3: not whole", s, [api.Spaces]bool{true}, false, nil)
				holds(t, "H7", s, int64(i+1))
			}
		}
		stands(t, "H3: in any order", s, [api.Spaces]bool{true, true}, false, &ours)
	}
}

// The chapter's examples.
func TestExamples(t *testing.T) {
	c, s := client(t), server(t)
	if !c.Waits(api.Initial) {
		t.Error("example 1")
	}
	f, ok := c.Next(api.Initial, 1000)
	if !ok || f.Kind != api.KCrypto || f.Offset != 0 || f.Data[0] != 1 || c.Open(api.Handshake) {
		t.Errorf("example 1: %+v", f)
	}
	unchanged(t, "example 1", c, func() { takes(t, "example 1", c, api.Handshake, 0, "\x03\x00\x04\x00", api.CodeNone) })
	if code := s.Take(api.Initial, f); code != api.CodeNone {
		t.Errorf("example 2: %#x", code)
	}
	stands(t, "example 2", s, [api.Spaces]bool{true, true}, false, &ours)
	tells(t, "example 2", s, api.Initial, 1000, 0, "\x02\x00")
	tells(t, "example 2", s, api.Handshake, 1000, 0, "\x03\x06"+theirsBytes+"\x04\x00")
	takes(t, "example 3", client(t), api.Initial, 0, "\x03", api.CodeHand)
	takes(t, "example 3", server(t), api.Initial, 0, "\x01\x01\xff", api.CodeParams)
	takes(t, "example 3", server(t), api.Initial, 0, "\x01\x41\x91\xff", api.CodeHand)
}
