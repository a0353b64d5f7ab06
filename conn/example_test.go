package conn

import (
	"bytes"
	"encoding/hex"
	"strings"
	"testing"

	"portage/api"
)

// unhex reads bytes as the chapter writes them.
func unhex(t *testing.T, text string) []byte {
	t.Helper()
	b, err := hex.DecodeString(strings.Join(strings.Fields(text), ""))
	if err != nil {
		t.Fatal(err)
	}
	return b
}

// Example 1.
func TestExampleFirst(t *testing.T) {
	c, s := client(t), server(t)
	b, mark, ok := c.Send(0)
	want := append(unhex(t, "c3 00000001 01 05 01 09 00 44a4 00000000 06 00 20 01 1e 04 04 80010000 05 04 80004000 06 04 80004000 07 04 80004000 08 01 04 09 01 04"), make([]byte, 1149)...)
	if !ok || mark != api.Unmarked || len(b) != 1200 || !bytes.Equal(b, want) {
		t.Errorf("example 1: Send(0) = %x, %d, %v", b, mark, ok)
	}
	silent(t, "example 1: once more", c, 0)
	is(t, "example 1: Deadline", c.Deadline(), 300000)
	silent(t, "example 1: the server", s, 0)
}

// Example 2.
func TestExampleSecond(t *testing.T) {
	c, s := client(t), server(t)
	b, _, _ := c.Send(0)
	s.Receive(10, b, api.Unmarked)
	b, mark, ok := s.Send(10)
	// Of 1200 bytes 26 are the Initial packet's, and the Handshake packet's length is what is left behind its own head.
	want := unhex(t, "c3 00000001 01 09 01 09 00 400e 00000000 02 00 00 00 00 06 00 02 02 00"+
		"e3 00000001 01 09 01 09 448b 00000000 06 00 22 03 1e 04 04 80010000 05 04 80004000 06 04 80004000 07 04 80004000 08 01 04 09 01 04 04 00")
	want = append(want, make([]byte, 1200-len(want))...)
	if !ok || mark != api.Unmarked || !bytes.Equal(b, want) {
		t.Errorf("example 2: Send(10) = %x, %d, %v\nwant %x", b, mark, ok, want)
	}
	silent(t, "example 2: once more", s, 10)
}

// Example 3.
func TestExampleStream(t *testing.T) {
	c, s := client(t), server(t)
	exchange(t, c, s, 0)
	for _, e := range []*Conn{c, s} {
		v := e.View()
		is(t, "example 3: confirmed", []any{v.Confirmed, v.Open}, []any{true, [3]bool{false, false, true}})
	}
	id, err := c.Open(false)
	is(t, "example 3: Open", []any{id, err}, []any{int64(0), api.OK})
	is(t, "example 3: Write", c.Write(0, []byte("hello")), api.OK)
	is(t, "example 3: Fin", c.Fin(0), api.OK)
	b, _ := sends(t, "example 3: one datagram", c, 100)
	silent(t, "example 3: one datagram", c, 100)
	s.Receive(100, b, api.Unmarked)
	got, end, err := s.Read(0, 3)
	is(t, "example 3: Read", []any{string(got), end, err}, []any{"hel", false, api.OK})
	got, end, err = s.Read(0, 9)
	is(t, "example 3: Read", []any{string(got), end, err}, []any{"lo", true, api.OK})
	is(t, "example 3: its ack waits", s.Deadline(), 25100)
}

// Example 4.
func TestExampleLost(t *testing.T) {
	c, _ := met(t, nil)
	id, _ := c.Open(true)
	c.Write(id, []byte("abc"))
	_, first := sends(t, "example 4: it is lost", c, 50000)
	at := c.Deadline()
	c.Timeout(at)
	v := c.View()
	is(t, "example 4: the expiry", []int{v.Credit, v.In}, []int{2, api.App})
	_, l := sends(t, "example 4: the probe", c, at)
	is(t, "example 4: the same bytes", l[0].frames, first[0].frames)
	is(t, "example 4: a new number", l[0].Number, first[0].Number+1)
	is(t, "example 4: one probe less", c.View().Credit, 1)
	o, _ := c.end.loss.Ack(at, api.App, ack(l[0].Number, l[0].Number))
	is(t, "example 4: it is a probe", o.Acked[0].Probe, true)
}

// Example 5.
func TestExampleClose(t *testing.T) {
	c, s := met(t, nil)
	is(t, "example 5: Close", c.Close(50, 7, []byte("bye")), api.OK)
	b, l := sends(t, "example 5: the close", c, 50)
	is(t, "example 5: a short packet", l[0].Space, api.App)
	is(t, "example 5: its payload", l[0].Payload, unhex(t, "1d 07 03 62 79 65"))
	silent(t, "example 5: once", c, 50)
	c.Receive(60, []byte("whatever"), api.Unmarked)
	again, l := sends(t, "example 5: once more", c, 60)
	is(t, "example 5: the close", l[0].Payload, unhex(t, "1d 07 03 62 79 65"))
	for _, g := range [][]byte{b, again} {
		s.Receive(70, g, api.Unmarked)
		v := s.View()
		is(t, "example 5: draining", []any{v.State, v.Told, v.Own, v.Code, string(v.Reason)}, []any{api.StateDraining, true, true, int64(7), "bye"})
	}
}

// Example 6.
func TestExampleWrong(t *testing.T) {
	for _, x := range []struct {
		bytes string
		code  api.Code
		kind  int64
	}{
		{"c3 00000001 01 05 01 07 00 4006 00000000 40 01", api.CodeFrame, 0},
		{"c3 00000001 01 05 01 07 00 4005 00000000 1e", api.CodeProtocol, api.KDone},
		{"c3 00000001 01 05 01 07 00 4004 00000000", api.CodeProtocol, 0},
	} {
		s := server(t)
		s.Receive(0, unhex(t, x.bytes), api.Unmarked)
		closes(t, "example 6: "+x.bytes, s, x.code, x.kind)
	}
	s := server(t)
	s.Receive(0, []byte("anything"), api.Unmarked)
	v := s.View()
	is(t, "example 6: what is no packet", []any{v.State, v.Got, s.end.allowance()}, []any{api.StateLive, int64(8), int64(24)})
}
