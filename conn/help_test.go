package conn

import (
	"bytes"
	"fmt"
	"reflect"
	"slices"
	"strings"
	"testing"

	"portage/api"
	"portage/frame"
	"portage/packet"
)

// config is that of the chapter's examples.
func config(role int) api.Config {
	c := api.Config{
		Params: api.Params{Data: 65536, StreamOwn: 16384, StreamHis: 16384, StreamUni: 16384, Bidi: 4, Uni: 4, AckExp: 3, AckDelay: 25000},
		MTU:    1200, Capacity: 16384, InitialRTT: 100000, Granularity: 1000, MaxPTO: 1000000, Burst: 12000, ID: []byte{9},
	}
	if role == api.Client {
		c.To = []byte{5}
	}
	return c
}

// changed is the examples' configuration with something else in it.
func changed(role int, change func(*api.Config)) api.Config {
	c := config(role)
	change(&c)
	return c
}

func made(t *testing.T, c api.Config, role int) *Conn {
	t.Helper()
	e, err := New(c, role, 0)
	if e == nil || err != api.OK {
		t.Fatalf("C1: New(%+v, %d, 0) = %v, %d", c, role, e, err)
	}
	return e
}

func client(t *testing.T) *Conn { t.Helper(); return made(t, config(api.Client), api.Client) }

func server(t *testing.T) *Conn { t.Helper(); return made(t, config(api.Server), api.Server) }

// exchange has both send all they have, till neither has more.
func exchange(t *testing.T, a, b *Conn, now int64) {
	t.Helper()
	for range 100 {
		n := 0
		for _, x := range [][2]*Conn{{a, b}, {b, a}} {
			for g, mark, ok := x[0].Send(now); ok; g, mark, ok = x[0].Send(now) {
				x[1].Receive(now, g, mark)
				n++
			}
		}
		if n == 0 {
			return
		}
	}
	t.Fatal("C5: they send and send")
}

// met are a client and a server behind the handshake, with nothing under way.
func met(t *testing.T, change func(*api.Config)) (*Conn, *Conn) {
	t.Helper()
	if change == nil {
		change = func(*api.Config) {}
	}
	c, s := made(t, changed(api.Client, change), api.Client), made(t, changed(api.Server, change), api.Server)
	exchange(t, c, s, 0)
	// What waits to be acknowledged is, by then.
	for _, now := range []int64{25000, 50000} {
		c.Timeout(now)
		s.Timeout(now)
		exchange(t, c, s, now)
	}
	for _, e := range []*Conn{c, s} {
		if v := e.View(); !v.Confirmed || v.Open != [3]bool{false, false, true} || v.Recovery.Window.Flight != 0 {
			t.Fatalf("the handshake: %+v", v)
		}
	}
	return c, s
}

// payload are frames as bytes.
func payload(t *testing.T, l ...api.Frame) []byte {
	t.Helper()
	b, err := frame.Join(l...)
	if err != api.OK {
		t.Fatalf("%+v: %d", l, err)
	}
	return b
}

// long is a packet of the handshake from an end called 9 to one that is called dst.
func long(space int, dst string, number int64, payload []byte) api.Packet {
	return api.Packet{Space: space, Dst: []byte(dst), Src: []byte("\x09"), Number: number, Width: 4, Payload: payload}
}

// short is a packet of App to an end that is called 9.
func short(number int64, payload []byte) api.Packet {
	return api.Packet{Space: api.App, Dst: []byte("\x09"), Number: number, Width: 4, Payload: payload}
}

// datagram are packets as bytes.
func datagram(t *testing.T, l ...api.Packet) []byte {
	t.Helper()
	var all []byte
	for _, p := range l {
		b, err := packet.Encode(p)
		if err != api.OK {
			t.Fatalf("%+v: %d", p, err)
		}
		all = append(all, b...)
	}
	return all
}

// next is the number that the other end would give its next packet of a space: one above all that came.
func next(e *Conn, space int) int64 { return e.end.seen[space].Largest() + 1 }

// hears hands an end a packet of App with these frames.
func hears(t *testing.T, e *Conn, now int64, l ...api.Frame) {
	t.Helper()
	e.Receive(now, datagram(t, short(next(e, api.App), payload(t, l...))), api.Unmarked)
}

// A sight is what a packet shows.
type sight struct {
	api.Packet
	frames []api.Frame
}

// sees reads a datagram of an end whose other end's id has n bytes.
func sees(t *testing.T, b []byte, n int) []sight {
	t.Helper()
	l, end := packet.Split(b, n, [3]int64{-1, -1, -1})
	if end != len(b) {
		t.Fatalf("T6: %x can't be read at %d", b, end)
	}
	var all []sight
	for _, p := range l {
		fs, _, err := frame.Parse(p.Payload)
		if err != api.OK {
			t.Fatalf("T6: the payload %x: %d", p.Payload, err)
		}
		all = append(all, sight{p, fs})
	}
	return all
}

// sends asks for a datagram that must be there.
func sends(t *testing.T, say string, e *Conn, now int64) ([]byte, []sight) {
	t.Helper()
	b, mark, ok := e.Send(now)
	if !ok || len(b) == 0 || mark != api.Unmarked {
		t.Fatalf("%s: Send(%d) = %x, %d, %v", say, now, b, mark, ok)
	}
	return b, sees(t, b, 1)
}

// silent asks for a datagram where there is none.
func silent(t *testing.T, say string, e *Conn, now int64) {
	t.Helper()
	if b, mark, ok := e.Send(now); ok || len(b) != 0 || mark != 0 {
		t.Errorf("%s: Send(%d) = %x, %d, %v", say, now, b, mark, ok)
	}
}

// kinds are those of the frames of a packet, padding left out.
func kinds(s sight) []int {
	var l []int
	for _, f := range s.frames {
		if f.Kind != api.KPadding {
			l = append(l, f.Kind)
		}
	}
	return l
}

// spaces are those of the packets.
func spaces(l []sight) []int {
	var n []int
	for _, s := range l {
		n = append(n, s.Space)
	}
	return n
}

// is holds a value against what it is to be.
func is[T any](t *testing.T, say string, got, want T) {
	t.Helper()
	if !reflect.DeepEqual(got, want) {
		t.Errorf("%s: %+v, want %+v", say, got, want)
	}
}

// closes holds that an end has closed with a code, of a frame of that kind.
func closes(t *testing.T, say string, e *Conn, code api.Code, kind int64) {
	t.Helper()
	v := e.View()
	if v.State != api.StateClosing || v.Code != int64(code) || v.Kind != kind || v.Own || v.Told || len(v.Reason) > 0 {
		t.Errorf("%s: state %d, code %#x, kind %#x, want code %#x, kind %#x: %+v", say, v.State, v.Code, v.Kind, code, kind, v)
	}
}

// lives holds that an end is live.
func lives(t *testing.T, say string, e *Conn) {
	t.Helper()
	if v := e.View(); v.State != api.StateLive {
		t.Errorf("%s: state %d, code %#x, kind %#x", say, v.State, v.Code, v.Kind)
	}
}

// period is what the chapter calls so, of an end whose other end may put off an acknowledgement for so long, as far as that is known.
func period(e *Conn, putOff int64) int64 {
	c, v := e.end.config, e.View().Recovery.RTT
	base := 3 * c.InitialRTT
	if v.Has {
		base = v.Smooth + max(4*v.Var, c.Granularity)
	}
	return min(c.MaxPTO, base+putOff)
}

// dump tells all that there is of a value, to its depth.
func dump(v reflect.Value) string {
	l := []string{}
	switch v.Kind() {
	case reflect.Pointer, reflect.Interface:
		if v.IsNil() {
			return "nil"
		}
		return "&" + dump(v.Elem())
	case reflect.Struct:
		for i := range v.NumField() {
			l = append(l, v.Type().Field(i).Name+":"+dump(v.Field(i)))
		}
	case reflect.Map:
		for _, k := range v.MapKeys() {
			l = append(l, dump(k)+":"+dump(v.MapIndex(k)))
		}
		slices.Sort(l)
	case reflect.Slice, reflect.Array:
		if v.Kind() == reflect.Slice && v.Type().Elem().Kind() == reflect.Uint8 {
			return fmt.Sprintf("%x", v.Bytes())
		}
		for i := range v.Len() {
			l = append(l, dump(v.Index(i)))
		}
	default:
		return fmt.Sprint(v)
	}
	return "{" + strings.Join(l, " ") + "}"
}

func picture(e *Conn) string { return dump(reflect.ValueOf(e)) }

// unchanged does something that is to change nothing.
func unchanged(t *testing.T, say string, e *Conn, do func()) {
	t.Helper()
	ahead := picture(e)
	do()
	if behind := picture(e); behind != ahead {
		t.Errorf("%s: it has changed:\n%s\n%s", say, ahead, behind)
	}
}

// stated are four ends of a role, behind the handshake: by the number of its state each, with five bytes of stream 0 (or 1) that were not read.
func stated(t *testing.T, role int) [4]*Conn {
	t.Helper()
	var l [4]*Conn
	for state := range l {
		both := [2]*Conn{}
		both[0], both[1] = met(t, nil)
		e, other := both[role], both[1-role]
		id, _ := other.Open(false)
		other.Write(id, []byte("hello"))
		exchange(t, other, e, 50000)
		switch state {
		case api.StateClosing:
			is(t, "C2: Close", e.Close(50000, 7, []byte("bye")), api.OK)
		case api.StateDraining:
			hears(t, e, 50000, api.Frame{Kind: api.KClose, Code: 8, Size: 6, Data: []byte("why")})
		case api.StateOver:
			hears(t, e, 50000, api.Frame{Kind: api.KClose, Own: true, Code: 8})
			e.Timeout(e.Deadline())
		}
		is(t, "C8: the state", e.View().State, state)
		l[state] = e
	}
	return l
}

func repeat(b byte, n int) []byte { return bytes.Repeat([]byte{b}, n) }

// Messages of the handshake, with the examples' terms.
const (
	termsBytes  = "\x1e\x04\x04\x80\x01\x00\x00\x05\x04\x80\x00\x40\x00\x06\x04\x80\x00\x40\x00\x07\x04\x80\x00\x40\x00\x08\x01\x04\x09\x01\x04"
	helloBytes  = "\x01" + termsBytes
	answerBytes = "\x02\x00"
	serverBytes = "\x03" + termsBytes + "\x04\x00"
	doneBytes   = "\x04\x00"
)

func crypto(off int64, text string) api.Frame {
	return api.Frame{Kind: api.KCrypto, Offset: off, Data: []byte(text)}
}

func padding(n int64) api.Frame { return api.Frame{Kind: api.KPadding, Size: n} }

func ping() api.Frame { return api.Frame{Kind: api.KPing} }

func ack(lo, hi int64) api.Frame {
	return api.Frame{Kind: api.KAck, Runs: []api.Run{{Lo: lo, Hi: hi}}}
}

// greeted is a server that got HELLO at 0 in a datagram of n bytes, and what it was handed.
func greeted(t *testing.T, n int) *Conn {
	t.Helper()
	s := server(t)
	s.Receive(0, hello(t, n), api.Unmarked)
	if v := s.View(); string(v.There) != "\x09" || !v.Open[1] || v.Got != int64(n) {
		t.Fatalf("HELLO: %+v", v)
	}
	return s
}

// hello is a datagram of n bytes with HELLO.
func hello(t *testing.T, n int) []byte {
	t.Helper()
	p := long(api.Initial, "\x05", 0, payload(t, crypto(0, helloBytes)))
	lack := n - len(datagram(t, p))
	if lack > 0 {
		p.Payload = append(p.Payload, make([]byte, lack)...)
	}
	b := datagram(t, p)
	if len(b) != n {
		t.Fatalf("HELLO in %d bytes", n)
	}
	return b
}

// answered is a client that has sent HELLO, and got ANSWER at 0, with nothing else.
func answered(t *testing.T) *Conn {
	t.Helper()
	c := client(t)
	sends(t, "HELLO", c, 0)
	c.Receive(0, datagram(t, long(api.Initial, "\x09", 0, payload(t, crypto(0, answerBytes)))), api.Unmarked)
	if v := c.View(); v.Open != [3]bool{true, true, false} {
		t.Fatalf("ANSWER: %+v", v)
	}
	return c
}

// agreed is a client that has sent nothing but HELLO, and got all that a server tells at 0.
func agreed(t *testing.T) *Conn {
	t.Helper()
	c := answered(t)
	c.Receive(0, datagram(t, long(api.Handshake, "\x09", 0, payload(t, crypto(0, serverBytes)))), api.Unmarked)
	if v := c.View(); v.Open != [3]bool{true, true, true} || !v.Complete {
		t.Fatalf("TERMS and DONE: %+v", v)
	}
	return c
}
