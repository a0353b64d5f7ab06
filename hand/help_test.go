package hand

import (
	"fmt"
	"math"
	"reflect"
	"slices"
	"strings"
	"testing"

	"portage/api"
)

// Spaces in which no messages go, App ahead of all.
var elsewhere = []int{api.App, -1, 3, 4, 256, math.MinInt, math.MaxInt}

// Terms of the tests: as bytes they are 04 02 43 e8, and 04 01 05 08 01 02.
var (
	ours   = api.Params{Data: 1000, AckExp: 3, AckDelay: 25000}
	theirs = api.Params{Data: 5, Bidi: 2, AckExp: 3, AckDelay: 25000}
	plain  = api.Params{AckExp: 3, AckDelay: 25000}
	utmost = api.Params{
		Idle: api.MaxSpan, Data: api.MaxWindow, StreamOwn: api.MaxWindow, StreamHis: api.MaxWindow, StreamUni: api.MaxWindow,
		Bidi: api.MaxStreams, Uni: api.MaxStreams, AckExp: 20, AckDelay: 16383000,
	}
)

const (
	oursBytes   = "\x04\x02\x43\xe8"
	theirsBytes = "\x04\x01\x05\x08\x01\x02"
	helloBytes  = "\x01\x04" + oursBytes
	answerBytes = "\x02\x00"
	termsBytes  = "\x03\x06" + theirsBytes
	doneBytes   = "\x04\x00"
	utmostBytes = "\x01\x08\xc0\x00\x00\x10\x00\x00\x00\x00" +
		"\x04\x04\x80\x10\x00\x00\x05\x04\x80\x10\x00\x00\x06\x04\x80\x10\x00\x00\x07\x04\x80\x10\x00\x00" +
		"\x08\x01\x20\x09\x01\x20\x0a\x01\x14\x0b\x04\x80\xf9\xfc\x18"
)

// long are terms of just so many bytes, from 3 on: they are plain, as a parameter that nobody knows is passed over.
func long(n int) string {
	if n <= 65 {
		return "\x02" + string(rune(n-2)) + strings.Repeat("z", n-2)
	}
	return "\x02" + string([]byte{0x40 | byte((n-3)>>8), byte(n - 3)}) + strings.Repeat("z", n-3)
}

// message is one whose length stands in so many bytes.
func message(kind byte, width int, size int, body string) string {
	b := []byte{kind}
	marks := map[int]byte{1: 0, 2: 0x40, 4: 0x80, 8: 0xc0}
	for i := range width {
		b = append(b, byte(uint64(size)>>(8*(width-1-i))))
	}
	b[1] |= marks[width]
	return string(b) + body
}

func made(t *testing.T, role int, own api.Params) *Hand {
	t.Helper()
	h, err := New(role, own)
	if h == nil || err != api.OK {
		t.Fatalf("H1: New(%d, %+v) = %v, %d", role, own, h, err)
	}
	return h
}

func client(t *testing.T) *Hand { t.Helper(); return made(t, api.Client, ours) }

func server(t *testing.T) *Hand { t.Helper(); return made(t, api.Server, theirs) }

// crypto is a frame as it comes.
func crypto(off int64, text string) api.Frame {
	return api.Frame{Kind: api.KCrypto, Offset: off, Data: []byte(text)}
}

// kept is a frame as a ledger keeps it.
func kept(off, size int64) api.Frame {
	return api.Frame{Kind: api.KCrypto, Offset: off, Size: size}
}

// dump tells all that there is of a value, to its depth.
func dump(v reflect.Value) string {
	switch v.Kind() {
	case reflect.Pointer:
		if v.IsNil() {
			return "nil"
		}
		return "&" + dump(v.Elem())
	case reflect.Struct:
		l := []string{}
		for i := range v.NumField() {
			l = append(l, v.Type().Field(i).Name+":"+dump(v.Field(i)))
		}
		return "{" + strings.Join(l, " ") + "}"
	case reflect.Slice, reflect.Array:
		if v.Kind() == reflect.Slice && v.Type().Elem().Kind() == reflect.Uint8 {
			return fmt.Sprintf("%x", v.Bytes())
		}
		l := []string{}
		for i := range v.Len() {
			l = append(l, dump(v.Index(i)))
		}
		return "[" + strings.Join(l, " ") + "]"
	}
	return fmt.Sprint(v)
}

func picture(h *Hand) string { return dump(reflect.ValueOf(h)) }

// unchanged does something that is to change nothing.
func unchanged(t *testing.T, say string, h *Hand, do func()) {
	t.Helper()
	ahead := picture(h)
	do()
	if behind := picture(h); behind != ahead {
		t.Errorf("%s: it has changed:\n%s\n%s", say, ahead, behind)
	}
}

// takes hands bytes in; with a code that says that nothing has changed, that is so.
func takes(t *testing.T, say string, h *Hand, space int, off int64, text string, want api.Code) {
	t.Helper()
	ahead := picture(h)
	if got := h.Take(space, crypto(off, text)); got != want {
		t.Errorf("%s: Take(%d, %d, %q) = %#x, want %#x", say, space, off, text, got, want)
	}
	if (want == api.CodeProtocol || want == api.CodeCrypto) && picture(h) != ahead {
		t.Errorf("%s: Take(%d, %d, %q) has changed it:\n%s\n%s", say, space, off, text, ahead, picture(h))
	}
}

// tells asks for a piece, with a room.
func tells(t *testing.T, say string, h *Hand, space, room int, off int64, text string) {
	t.Helper()
	if !h.Waits(space) {
		t.Errorf("%s: nothing waits in %d", say, space)
	}
	f, ok := h.Next(space, room)
	if !ok || string(f.Data) != text || f.Offset != off {
		t.Errorf("%s: Next(%d, %d) = %+v, %v, want %q at %d", say, space, room, f, ok, text, off)
	}
	f.Data = nil
	if !reflect.DeepEqual(f, api.Frame{Kind: api.KCrypto, Offset: off}) {
		t.Errorf("%s: Next(%d, %d): fields that aren't a crypto frame's: %+v", say, space, room, f)
	}
}

// refuses asks for a piece where none is told.
func refuses(t *testing.T, say string, h *Hand, space, room int) {
	t.Helper()
	unchanged(t, say, h, func() {
		if f, ok := h.Next(space, room); ok || !reflect.DeepEqual(f, api.Frame{}) {
			t.Errorf("%s: Next(%d, %d) = %+v, %v", say, space, room, f, ok)
		}
	})
}

// silent holds of a space in which nothing waits.
func silent(t *testing.T, say string, h *Hand, spaces ...int) {
	t.Helper()
	for _, space := range spaces {
		if h.Waits(space) {
			t.Errorf("%s: something waits in %d", say, space)
		}
		refuses(t, say, h, space, 1200)
	}
}

// stands holds an end against what H2 says of it: which spaces are open, and whose terms are known.
func stands(t *testing.T, say string, h *Hand, open [api.Spaces]bool, complete bool, peer *api.Params) {
	t.Helper()
	got := [api.Spaces]bool{h.Open(api.Initial), h.Open(api.Handshake), h.Open(api.App)}
	if got != open || h.Complete() != complete {
		t.Errorf("%s: open %v, complete %v, want %v, %v", say, got, h.Complete(), open, complete)
	}
	for _, space := range elsewhere[1:] {
		if h.Open(space) {
			t.Errorf("%s: space %d is open", say, space)
		}
	}
	p, known := h.Peer()
	if known != (peer != nil) || peer != nil && p != *peer || peer == nil && p != (api.Params{}) {
		t.Errorf("%s: Peer = %+v, %v, want %+v", say, p, known, peer)
	}
}

func holds(t *testing.T, say string, h *Hand, want int64) {
	t.Helper()
	if got := h.Held(); got != want {
		t.Errorf("%s: Held = %d, want %d", say, got, want)
	}
}

// answered is a client that has taken the ANSWER, greeted a server that has taken the HELLO.
func answered(t *testing.T) *Hand {
	t.Helper()
	h := client(t)
	takes(t, "H3", h, api.Initial, 0, answerBytes, api.CodeNone)
	return h
}

func greeted(t *testing.T) *Hand {
	t.Helper()
	h := server(t)
	takes(t, "H3", h, api.Initial, 0, helloBytes, api.CodeNone)
	return h
}

// cutAt cuts a text at places that a number's bits tell.
func cutAt(text string, bits int) []string {
	l := []string{}
	from := 0
	for i := 1; i < len(text); i++ {
		if bits>>(i-1)&1 == 1 {
			l = append(l, text[from:i])
			from = i
		}
	}
	return append(l, text[from:])
}

// orders are all orders of the numbers below n.
func orders(n int) [][]int {
	if n == 0 {
		return [][]int{{}}
	}
	var l [][]int
	for _, o := range orders(n - 1) {
		for at := range n {
			l = append(l, slices.Insert(slices.Clone(o), at, n-1))
		}
	}
	return l
}
