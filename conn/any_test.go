package conn

import (
	"math/rand/v2"
	"testing"

	"portage/api"
	"portage/frame"
	"portage/packet"
)

// someBytes are any bytes at all, or a datagram of the other end in which some are others.
func someBytes(r *rand.Rand, of []byte) []byte {
	if r.IntN(3) == 0 {
		of = make([]byte, r.IntN(1300))
		for i := range of {
			of[i] = byte(r.Uint32())
		}
		if len(of) > 0 {
			of[0] = oneOf[byte](r, of[0], 0xc3, 0xe3, 0x43, 0x40)
		}
		return of
	}
	b := append([]byte(nil), of...)
	for range 1 + r.IntN(4) {
		if len(b) == 0 {
			return b
		}
		switch at := r.IntN(min(len(b), 90)); r.IntN(4) {
		case 0:
			b[at] = byte(r.Uint32())
		case 1:
			b[at] ^= 1 << r.IntN(8)
		case 2:
			b = b[:at]
		default:
			b = append(b[:at], b[min(at+1, len(b)):]...)
		}
	}
	return b
}

// onlyCloses holds that a datagram tells nothing but closes (C12).
func onlyCloses(t *testing.T, b []byte, idlen int) {
	t.Helper()
	l, end := packet.Split(b, idlen, [3]int64{-1, -1, -1})
	if end != len(b) || len(l) == 0 {
		t.Fatalf("C12: %x", b)
	}
	for _, p := range l {
		fs, _, err := frame.Parse(p.Payload)
		if err != api.OK || len(fs) != 1 || fs[0].Kind != api.KClose {
			t.Fatalf("C12: %+v", fs)
		}
	}
}

// C11, C12: whatever is handed in, no call panics, what is held stays within its bound, and the states are those that may follow.
func TestAnyBytes(t *testing.T) {
	count := [4]int{}
	for seed := range uint64(1500) {
		r := rand.New(rand.NewPCG(seed, 24))
		c, s := client(t), server(t)
		ends, now := [2]*Conn{c, s}, int64(0)
		good := [][]byte{nil}
		for range r.IntN(5) {
			for role, e := range ends {
				for b, mark, ok := e.Send(now); ok; b, mark, ok = e.Send(now) {
					good = append(good, b)
					if r.IntN(5) > 0 {
						ends[1-role].Receive(now, b, mark)
					}
				}
			}
		}
		for range 40 {
			role := r.IntN(2)
			e := ends[role]
			ahead := e.View()
			e.Receive(now, someBytes(r, good[r.IntN(len(good))]), r.IntN(5)-1)
			v := e.View()
			if v.State < ahead.State || ahead.State != api.StateLive && v.State != ahead.State || v.State == api.StateOver && ahead.State != api.StateOver {
				t.Fatalf("C12: the state %d, then %d", ahead.State, v.State)
			}
			if v.State == api.StateClosing && (v.Code == 0 || v.Code == int64(api.CodeInternal) || v.Own || v.Told) {
				t.Fatalf("C12: it closes with %+v", v)
			}
			if v.State == api.StateDraining && !v.Told {
				t.Fatalf("C12: it drains: %+v", v)
			}
			if bound := int64(68*16384 + 65536 + 62976); v.Held > bound {
				t.Fatalf("C11: %d", v.Held)
			}
			for b, _, ok := e.Send(now); ok; b, _, ok = e.Send(now) {
				if v.State >= api.StateDraining {
					t.Fatalf("C12: state %d sends %x", v.State, b)
				}
				if v.State == api.StateClosing {
					onlyCloses(t, b, len(v.There)+len(e.end.config.To)*(1-min(len(v.There), 1)))
				}
				good = append(good, b)
			}
			now += r.Int64N(1000)
			if d := e.Deadline(); r.IntN(9) == 0 && d < 1<<40 {
				now = max(now, d)
				e.Timeout(now)
			}
		}
		for _, e := range ends {
			count[e.View().State]++
		}
	}
	for state, n := range count {
		if n < 20 {
			t.Errorf("the plays say little: state %d %d times of %v", state, n, count)
		}
	}
}

// C12: of bytes that are no packet nothing but that they count.
func TestNoPacket(t *testing.T) {
	for role := range 2 {
		e := stated(t, role)[api.StateLive]
		for _, b := range [][]byte{nil, {}, {0}, {0x40}, {0x43, 9}, {0x43, 9, 0, 0, 0}, {0xc3}, make([]byte, 9000), repeat(0xff, 1200), repeat(0x43, 4), repeat(0xc3, 1200)} {
			passes(t, "C12: no packet", e, b)
		}
	}
}

// FuzzReceive hands whatever comes to ends that are on their way.
func FuzzReceive(f *testing.F) {
	f.Add([]byte("anything"), uint8(0))
	f.Add([]byte("\xc3\x00\x00\x00\x01\x01\x05\x01\x07\x00\x40\x06\x00\x00\x00\x00\x40\x01"), uint8(1))
	f.Add([]byte("\x43\x09\x00\x00\x00\x01\x02\x00\x00\x00\x00"), uint8(2))
	f.Fuzz(func(t *testing.T, b []byte, which uint8) {
		c, s := met(t, nil)
		l := []*Conn{client(t), server(t), answered(t), agreed(t), greeted(t, 1200), c, s}
		e := l[int(which)%len(l)]
		e.Receive(60000, b, int(which)%4)
		for range 20 {
			e.Send(60000)
		}
		e.Timeout(e.Deadline())
		v := e.View()
		if v.State == api.StateClosing && (v.Code == 0 || v.Code == int64(api.CodeInternal)) {
			t.Errorf("C12: it closes with %+v", v)
		}
	})
}
