package conn

import (
	"math"
	"testing"

	"portage/api"
)

// C2: what the application may ask of a live end alone, and what in every state.
func TestCallsInEachState(t *testing.T) {
	for role := range 2 {
		for state, e := range stated(t, role) {
			want := func(of api.Errno) api.Errno {
				if state == api.StateLive {
					return of
				}
				return api.ErrConnOver
			}
			theirs := int64(1 - role)
			ours := int64(role)
			id, err := e.Open(false)
			is(t, "C2: Open", err, want(api.OK))
			is(t, "C2: Open", id, map[bool]int64{true: ours, false: 0}[state == api.StateLive])
			id, err = e.Open(true)
			is(t, "C2: Open of one way", err, want(api.OK))
			is(t, "C2: Open of one way", id, map[bool]int64{true: ours + 2, false: 0}[state == api.StateLive])
			is(t, "C2: Write", e.Write(theirs, []byte("abc")), want(api.OK))
			is(t, "C2: Write too much", e.Write(theirs, make([]byte, 16384)), want(api.ErrFull))
			is(t, "C2: Write to none", e.Write(99, nil), want(api.ErrStreamsID))
			is(t, "C2: Rank", e.Rank(theirs, 7), want(api.OK))
			is(t, "C2: Rank out of bounds", e.Rank(theirs, 8), want(api.ErrArg))
			is(t, "C2: Rank of none", e.Rank(99, 8), want(api.ErrStreamsID))
			is(t, "C2: Fin", e.Fin(theirs), want(api.OK))
			is(t, "C2: Fin of none", e.Fin(99), want(api.ErrStreamsID))
			is(t, "C2: Write behind Fin", e.Write(theirs, nil), want(api.ErrSendDone))
			is(t, "C2: Stop", e.Stop(theirs, 3), want(api.OK))
			is(t, "C2: Stop twice", e.Stop(theirs, 3), want(api.ErrOver))
			is(t, "C2: Stop with a code that may not be", e.Stop(theirs, -1), want(api.ErrArg))
			is(t, "C2: Reset with a code that may not be", e.Reset(theirs, -1), want(api.ErrArg))
			is(t, "C2: Reset", e.Reset(theirs, 3), want(api.OK))
			is(t, "C2: Reset twice", e.Reset(theirs, 3), want(api.ErrOver))
			is(t, "C2: Reset of none", e.Reset(99, 3), want(api.ErrStreamsID))
			// These are answered in every state.
			id, err = e.Accept()
			is(t, "C2: Accept", []any{id, err}, []any{theirs, api.OK})
			id, err = e.Accept()
			is(t, "C2: Accept of none", []any{id, err}, []any{int64(0), api.ErrNone})
			b, end, err := e.Read(theirs, 3)
			is(t, "C2: Read", []any{string(b), end, err}, []any{"hel", false, api.OK})
			b, end, err = e.Read(theirs, 9)
			is(t, "C2: Read", []any{string(b), end, err}, []any{"lo", false, api.OK})
			b, end, err = e.Read(99, 9)
			is(t, "C2: Read of none", []any{len(b), end, err}, []any{0, false, api.ErrStreamsID})
			v, err := e.Stream(theirs)
			is(t, "C9: Stream", []any{v.ID, v.Recv.Read, err}, []any{theirs, int64(5), api.OK})
			v, err = e.Stream(99)
			is(t, "C9: Stream of none", []any{v, err}, []any{api.StreamView{}, api.ErrStreamsID})
			if l := e.Streams(); state != api.StateLive && len(l) != 1 || state == api.StateLive && len(l) != 3 {
				t.Errorf("C9: Streams in state %d: %d", state, l)
			}
		}
	}
}

// C2: the refusals of calls of an end that isn't live change nothing.
func TestRefusedCallsChangeNothing(t *testing.T) {
	for state, e := range stated(t, api.Client) {
		if state == api.StateLive {
			continue
		}
		unchanged(t, "C2: not live", e, func() {
			e.Open(true)
			e.Open(false)
			e.Write(1, []byte("abc"))
			e.Fin(1)
			e.Reset(1, 2)
			e.Stop(1, 2)
			e.Rank(1, 2)
			e.Close(50000, 1, nil)
		})
	}
}

// C2: Close's refusals, in their order.
func TestCloseRefused(t *testing.T) {
	long, most := make([]byte, api.MaxReason+1), make([]byte, api.MaxReason)
	for role := range 2 {
		for state, e := range stated(t, role) {
			for _, x := range []struct {
				code   int64
				reason []byte
				want   api.Errno
			}{
				{-1, nil, api.ErrArg}, {math.MinInt64, nil, api.ErrArg}, {api.MaxNumber + 1, nil, api.ErrArg}, {math.MaxInt64, most, api.ErrArg},
				{-1, long, api.ErrArg}, {api.MaxNumber + 1, long, api.ErrArg}, {0, long, api.ErrLong}, {api.MaxNumber, long, api.ErrLong},
				{api.MaxNumber, make([]byte, 5000), api.ErrLong},
			} {
				if state != api.StateLive {
					x.want = api.ErrConnOver
				}
				unchanged(t, "C2: a Close that is refused", e, func() {
					is(t, "C2: Close", e.Close(50000, x.code, x.reason), x.want)
				})
			}
		}
	}
	for _, code := range []int64{0, 1, api.MaxNumber - 1, api.MaxNumber} {
		for _, reason := range [][]byte{nil, {}, most, most[:99], []byte("x")} {
			e := stated(t, api.Client)[api.StateLive]
			is(t, "C2: Close", e.Close(50000, code, reason), api.OK)
			v := e.View()
			is(t, "C2: Close", []any{v.State, v.Code, v.Own, v.Told, v.Kind, string(v.Reason)}, []any{api.StateClosing, code, true, false, int64(0), string(reason)})
			_, l := sends(t, "C5: the close", e, 50000)
			f := l[0].frames[0]
			is(t, "C5: the close", []any{f.Code, string(f.Data), f.Own}, []any{code, string(reason), true})
		}
	}
}

// R5: the clock goes on with each call that is told a time, whatever is answered, and never goes back.
func TestClock(t *testing.T) {
	for say, call := range map[string]func(*Conn, int64){
		"Close that is refused": func(e *Conn, now int64) { e.Close(now, -1, nil) },
		"Close that is long":    func(e *Conn, now int64) { e.Close(now, 1, make([]byte, 101)) },
		"Receive":               func(e *Conn, now int64) { e.Receive(now, nil, 0) },
		"Send":                  func(e *Conn, now int64) { e.Send(now) },
		"Timeout":               func(e *Conn, now int64) { e.Timeout(now) },
	} {
		for _, now := range []int64{50001, 60000, api.MaxTime, api.MaxTime + 1, math.MaxInt64} {
			e, _ := met(t, nil)
			call(e, now)
			call(e, 7)
			call(e, math.MinInt64)
			is(t, "C2: Close", e.Close(5, 1, nil), api.OK)
			is(t, "R5: the clock behind "+say, e.View().EndAt, min(now, api.MaxTime)+3*period(e, 25000))
		}
	}
	// So it is in every state.
	for _, state := range []int{api.StateClosing, api.StateDraining} {
		for _, call := range []func(*Conn, int64){
			func(e *Conn, now int64) { e.Close(now, 1, nil) },
			func(e *Conn, now int64) { e.Receive(now, nil, 0) },
			func(e *Conn, now int64) { e.Send(now) },
		} {
			e := stated(t, api.Client)[state]
			at := e.Deadline()
			call(e, at-1)
			e.Timeout(0)
			is(t, "C6: ahead of its end", e.View().State, state)
			call(e, at)
			is(t, "C6: Timeout wasn't asked", e.View().State, state)
			e.Timeout(0)
			is(t, "R5: the clock", e.View().State, api.StateOver)
		}
	}
}
