package loss

import (
	"reflect"
	"slices"
	"testing"

	"portage/api"
)

// roomy is a list of these elements with the same ones behind it, as spare room.
func roomy[T any](l ...T) []T {
	return append(slices.Clone(l), l...)[:len(l)]
}

// rich is a packet with all that may hang on one, and spare room behind each list.
func rich(number, time int64) api.Sent {
	n := byte(number)
	return api.Sent{
		Number: number, Time: time, Size: 90 + number, Eliciting: true, Counted: true, Probe: number%2 == 0, Told: number - 3,
		Frames: roomy(
			api.Frame{Kind: api.KStream, Stream: 4, Offset: number, Data: roomy(n, n+1, n+2), Size: 3, Fin: true, Tail: true},
			api.Frame{Kind: api.KAck, Delay: 5, Runs: roomy(api.Run{Lo: number, Hi: number + 1}, api.Run{Lo: 1, Hi: 2}), Marks: true, Counts: [3]int64{1, 2, number}},
			api.Frame{Kind: api.KClose, Data: roomy(n), Code: 7, Own: true},
			api.Frame{Kind: api.KMaxStreams, Limit: 9, Uni: true},
		),
	}
}

// riches are rich ones of these numbers.
func riches(time int64, numbers ...int64) []api.Sent {
	var l []api.Sent
	for _, x := range numbers {
		l = append(l, rich(x, time))
	}
	return l
}

// spoil writes over packets to their depth, with the room behind each list.
func spoil(l []api.Sent) {
	l = l[:cap(l)]
	for i := range l {
		spoilFrames(l[i].Frames)
		l[i] = api.Sent{Number: -7, Time: -7, Size: -7, Told: -7, Eliciting: true, Frames: roomy(api.Frame{Kind: -7})}
	}
}

func spoilFrames(l []api.Frame) {
	l = l[:cap(l)]
	for i := range l {
		data, runs := l[i].Data, l[i].Runs
		for k := range data[:cap(data)] {
			data[:cap(data)][k] = 0xee
		}
		for k := range runs[:cap(runs)] {
			runs[:cap(runs)][k] = api.Run{Lo: -77, Hi: -70}
		}
		l[i] = api.Frame{Kind: -7, Offset: -7, Data: roomy[byte](9, 9), Runs: roomy(api.Run{Lo: -7}), Counts: [3]int64{-7, -7, -7}}
	}
}

// filled is one that has sent 0 to n - 1 in each space at 5, rich ones all; what was handed in is looked after, and written over.
func filled(t *testing.T, n int64) *Loss {
	t.Helper()
	l := server(t)
	whole := func(s api.Sent) []api.Frame { return s.Frames[:cap(s.Frames)] }
	for space := range api.Spaces {
		for x := range n {
			s, want := rich(x, 5), rich(x, 5)
			send(t, l, 5, space, s)
			if !reflect.DeepEqual(s, want) || !reflect.DeepEqual(whole(s), whole(want)) {
				t.Fatalf("R3: Sent changes what it is handed: %+v", s)
			}
			spoil([]api.Sent{s})
		}
	}
	return l
}

// equals fails if packets are others, to their depth.
func equals(t *testing.T, say string, got, want []api.Sent) {
	t.Helper()
	if !reflect.DeepEqual(got, want) {
		t.Errorf("%s: %+v, want %+v", say, got, want)
	}
}

// What is answered is as it was handed in, to its depth, whatever became of that; and what is answered once may be written over.
func TestAnswersAreNewMemory(t *testing.T) {
	l := filled(t, 7)
	x := l.Timeout(300005)
	for space := range api.Spaces {
		equals(t, "R3: Again", x.Again[space], riches(5, 0, 1))
		spoil(x.Again[space])
		for other := space + 1; other < api.Spaces; other++ {
			equals(t, "R3: Again, where another space's is written over", x.Again[other], riches(5, 0, 1))
		}
	}
	ahead := look(l)
	y := l.Timeout(900005)
	for space := range api.Spaces {
		equals(t, "R3: Again, behind one that was written over", y.Again[space], riches(5, 0, 1))
	}
	if !reflect.DeepEqual(look(l).kept, ahead.kept) {
		t.Error("R3: what is kept hangs on what was answered")
	}
	l = filled(t, 7)
	o := ack(t, l, 6, api.App, 3, 4)
	equals(t, "R3: Acked", o.Acked, riches(5, 3, 4))
	spoil(o.Acked)
	equals(t, "R3: Lost, where Acked is written over", o.Lost, riches(5, 0, 1))
	spoil(o.Lost)
	o = ack(t, l, 7, api.App, 5, 5)
	equals(t, "R3: Lost, behind others that were written over", o.Lost, riches(5, 2))
	spoil(o.Lost)
	equals(t, "R3: Acked, where Lost is written over", o.Acked, riches(5, 5))
	spoil(o.Acked)
	o = ack(t, l, 8, api.App, 6, 6)
	equals(t, "R3: Acked, behind others that were written over", o.Acked, riches(5, 6))
	ack(t, l, 8, api.Handshake, 2, 2)
	z := l.Timeout(1000000)
	equals(t, "R3: Lost of a timer", z.Lost, riches(5, 0, 1))
	spoil(z.Lost)
	tells(t, "R3: what is kept, behind one that was written over", slices.Collect(l.spaces[api.Handshake].Kept()), 3, 4, 5, 6)
}

func TestForgottenIsNewMemory(t *testing.T) {
	l := filled(t, api.MaxSent)
	for x := range int64(3) {
		o, err := l.Sent(6, api.App, rich(0, 0))
		if err != api.OK {
			t.Fatalf("P14.2: Sent: %d", err)
		}
		equals(t, "R3: what is forgotten", o.Lost, riches(5, x))
		spoil(o.Lost)
	}
}

// A frame's runs are neither changed nor kept.
func TestAckIsNotKept(t *testing.T) {
	l := filled(t, 9)
	want := []api.Run{{Lo: 8, Hi: 8}, {Lo: 3, Hi: 4}, {Lo: 6, Hi: 6}}
	f := api.Frame{Kind: api.KAck, Runs: roomy(want...), Data: roomy[byte](1, 2)}
	o := take(t, l, 6, api.App, f)
	tells(t, "P14.4: acknowledged", o.Acked, 3, 4, 6, 8)
	for _, half := range [][]api.Run{f.Runs, f.Runs[3:6]} {
		if !slices.Equal(half, want) {
			t.Errorf("R3: Ack changes what it is handed: %v", f.Runs[:6])
		}
	}
	ahead := look(l)
	spoilFrames([]api.Frame{f})
	same(t, "R3: the frame is written over", l, ahead)
	if !l.spaces[api.App].Told(8, 8) || l.spaces[api.App].Told(-77, -70) {
		t.Error("R3: what was acknowledged hangs on the frame")
	}
}

// A configuration's lists are neither changed nor kept.
func TestConfigIsNotKept(t *testing.T) {
	o := plain()
	o.ID, o.To = roomy[byte](1, 2), roomy[byte](3, 4)
	l := made(t, o, api.Client)
	send(t, l, 0, api.Initial, asking(1))
	if !slices.Equal(o.ID[:4], []byte{1, 2, 1, 2}) || !slices.Equal(o.To[:4], []byte{3, 4, 3, 4}) {
		t.Errorf("R3: New changes what it is handed: %v, %v", o.ID[:4], o.To[:4])
	}
}

// Events that were told may be written over, with the room behind them.
func TestEventsAreNewMemory(t *testing.T) {
	for _, many := range []int64{1, 5, api.MaxEvents, api.MaxEvents + 900} {
		l := made(t, plain(), api.Client)
		for i := range many {
			l.Keys(i)
		}
		got := l.Events()
		l.Keys(many)
		l.Blocked(many+1, true)
		got = got[:cap(got)]
		for i := range got {
			got[i] = api.Event{Kind: -7, Time: -7}
		}
		l.Blocked(many+2, false)
		events(t, "R3: events, behind others that were written over", l,
			api.Event{Kind: api.EvTimer, Time: many, Space: api.Handshake, A: many + 300000, B: 2},
			api.Event{Kind: api.EvTimer, Time: many + 1, A: api.Never},
			api.Event{Kind: api.EvTimer, Time: many + 2, Space: api.Handshake, A: many + 300002, B: 2})
	}
}

// What is kept is bounded, however long it goes on.
func TestMemoryIsBounded(t *testing.T) {
	l := confirmed(t)
	for i := range int64(30000) {
		l.Sent(i, api.App, asking(1))
		if i%3 == 0 {
			l.Ack(i, api.App, frame(i, i))
		}
		l.Timeout(i)
	}
	if n := len(l.events); n != api.MaxEvents || cap(l.events) > 4*api.MaxEvents {
		t.Errorf("P14.10: %d events are kept, in a list of %d", n, cap(l.events))
	}
	if v := l.View(); v.Spaces[api.App].Kept > api.MaxSent || v.Window.Flight != v.Spaces[api.App].Flight {
		t.Errorf("What follows: %+v", v)
	}
}
