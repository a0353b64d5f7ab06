package ledger

import (
	"reflect"
	"slices"
	"testing"

	"portage/api"
)

// roomy is a list of these elements with the same ones behind it, as spare room.
func roomy[T any](l ...T) []T {
	return append(slices.Clone(l), l...)[:len(l)]
}

// rich is a packet with all that may hang on one, and spare room behind each list.
func rich(number int64) api.Sent {
	n := byte(number)
	return api.Sent{
		Number: number, Time: number, Size: 900 + number, Eliciting: true, Counted: true, Probe: number%2 == 0, Told: number - 3,
		Frames: roomy(
			api.Frame{Kind: api.KStream, Stream: 4, Offset: number, Data: roomy(n, n+1, n+2), Size: 3, Fin: true, Tail: true},
			api.Frame{Kind: api.KAck, Delay: 5, Runs: roomy(api.Run{Lo: number, Hi: number + 1}, api.Run{Lo: 1, Hi: 2}), Marks: true, Counts: [3]int64{1, 2, number}},
			api.Frame{Kind: api.KClose, Data: roomy(n), Code: 7, Own: true},
			api.Frame{Kind: api.KMaxStreams, Limit: 9, Uni: true},
		),
	}
}

// riches are rich ones of these numbers.
func riches(numbers ...int64) []api.Sent {
	var l []api.Sent
	for _, x := range numbers {
		l = append(l, rich(x))
	}
	return l
}

// spoil writes over packets to their depth, with the room behind each list.
func spoil(l []api.Sent) {
	l = l[:cap(l)]
	for i := range l {
		spoilFrames(l[i].Frames)
		l[i] = api.Sent{Number: -7, Time: -7, Size: -7, Told: -7, Eliciting: true, Frames: roomy(api.Frame{Kind: -7})}
	}
}

func spoilFrames(l []api.Frame) {
	l = l[:cap(l)]
	for i := range l {
		data, runs := l[i].Data, l[i].Runs
		for k := range data[:cap(data)] {
			data[:cap(data)][k] = 0xee
		}
		for k := range runs[:cap(runs)] {
			runs[:cap(runs)][k] = api.Run{Lo: -77, Hi: -70}
		}
		l[i] = api.Frame{Kind: -7, Offset: -7, Data: roomy[byte](9, 9), Runs: roomy(api.Run{Lo: -7}), Counts: [3]int64{-7, -7, -7}}
	}
}

// filled is one of which 0 to n - 1 were sent, rich ones all; what was handed in is written over.
func filled(t *testing.T, n int64) *Ledger {
	t.Helper()
	l := made(t, 0)
	for x := range n {
		s := rich(x)
		if gone, err := l.Add(s); err != api.OK || len(gone) != 0 {
			t.Fatalf("P13.3: Add(%d) = %d, %d", x, numbers(gone), err)
		}
		spoil([]api.Sent{s})
	}
	return l
}

// equals fails if packets are others, to their depth.
func equals(t *testing.T, say string, got, want []api.Sent) {
	t.Helper()
	if !reflect.DeepEqual(got, want) {
		t.Errorf("%s: %+v, want %+v", say, got, want)
	}
}

func TestKeptAsHandedIn(t *testing.T) {
	all := riches(0, 1, 2, 3, 4, 5)
	l := filled(t, 6)
	equals(t, "P13.6: Kept", slices.Collect(l.Kept()), all)
	equals(t, "P13.6: Oldest", l.Oldest(4), all[:4])
	equals(t, "P13.4: Ack", ack(t, l, 1, 2), all[1:3])
	equals(t, "P13.5: Lose", l.Lose(4), all[4:5])
	equals(t, "P13.5: Drop", l.Drop(), riches(0, 3, 5))
	l = filled(t, api.MaxSent)
	gone, _ := l.Add(rich(api.MaxSent))
	equals(t, "P13.3: Add that forgets", gone, all[:1])
	equals(t, "P13.6: Kept, behind it", slices.Collect(l.Kept())[:5], all[1:])
}

// What is handed in isn't changed: not its order, not what hangs on it, not the room behind it.
func TestHandedInIsNotChanged(t *testing.T) {
	l := made(t, 0)
	for x := range int64(api.MaxSent + 3) {
		s := rich(x)
		l.Add(s)
		whole := func(s api.Sent) []api.Frame { return s.Frames[:cap(s.Frames)] }
		if want := rich(x); !reflect.DeepEqual(s, want) || !reflect.DeepEqual(whole(s), whole(want)) {
			t.Fatalf("R3: Add changes what it is handed: %+v", s)
		}
	}
	r, numbers := roomy(pairs(20, 21, 10, 12, 11, 13)...), roomy[int64](9, 30, 5, 30)
	l.Ack(r...)
	l.Lose(numbers...)
	for _, half := range [][]api.Run{r, r[3:6]} {
		if !slices.Equal(half, pairs(20, 21, 10, 12, 11, 13)) {
			t.Errorf("R3: Ack changes what it is handed: %d", r[:6])
		}
	}
	for _, half := range [][]int64{numbers, numbers[4:8]} {
		if !slices.Equal(half, []int64{9, 30, 5, 30}) {
			t.Errorf("R3: Lose changes what it is handed: %d", numbers[:8])
		}
	}
}

// What is handed in isn't kept: runs and numbers, written over, change nothing.
func TestRunsAndNumbersAreNotKept(t *testing.T) {
	l := filled(t, 20)
	r, numbers := roomy(pairs(3, 4, 7, 7)...), roomy[int64](9, 5)
	l.Ack(r...)
	l.Lose(numbers...)
	ahead := look(l)
	for i := range r[:cap(r)] {
		r[:cap(r)][i] = api.Run{Lo: 0, Hi: 19}
	}
	for i := range numbers[:cap(numbers)] {
		numbers[:cap(numbers)][i] = 12
	}
	same(t, "R3: runs and numbers that were handed in, written over", l, ahead)
	toldJust(t, "R3: runs that were handed in, written over", l, 20, pairs(3, 4, 7, 7))
}

// An empty list has room behind it, too.
func TestEmptyListsWithRoom(t *testing.T) {
	l := made(t, 0)
	frames := roomy(api.Frame{Kind: api.KPing}, api.Frame{Kind: api.KPing})
	data, runs := roomy[byte](1, 2), pairs(1, 2, 3, 4)
	one, two := asking(0, 0), asking(1, 0)
	one.Frames = frames[:0]
	two.Frames = []api.Frame{{Kind: api.KStream, Data: data[:0]}, {Kind: api.KAck, Runs: runs[:0]}}
	add(t, l, one, two)
	for range 2 {
		spoil(slices.Collect(l.Kept()))
		spoil(l.Oldest(2))
	}
	got := l.Drop()
	if len(got) != 2 || len(got[0].Frames) != 0 || len(got[1].Frames) != 2 || len(got[1].Frames[0].Data)+len(got[1].Frames[1].Runs) != 0 {
		t.Fatalf("P13.3: empty lists come back as %+v", got)
	}
	spoil(got)
	if frames[0].Kind != api.KPing || frames[1].Kind != api.KPing || !slices.Equal(data, []byte{1, 2}) || !slices.Equal(runs, pairs(1, 2, 3, 4)) {
		t.Errorf("R3: the room behind empty lists is written over: %+v, %d, %d", frames, data, runs)
	}
}

// What is answered is the caller's own: written over, it changes nothing else, neither what is kept nor another answer.
func TestAnsweredIsNewMemory(t *testing.T) {
	all := riches(0, 1, 2, 3, 4, 5, 6, 7)
	l := filled(t, 8)
	kept, again := slices.Collect(l.Kept()), slices.Collect(l.Kept())
	oldest, more := l.Oldest(5), l.Oldest(5)
	for _, answer := range [][]api.Sent{kept, oldest} {
		spoil(answer)
		equals(t, "R3: Kept, asked ahead", again, all)
		equals(t, "R3: Oldest, asked ahead", more, all[:5])
		equals(t, "R3: Kept, asked behind", slices.Collect(l.Kept()), all)
		equals(t, "R3: Oldest, asked behind", l.Oldest(3), all[:3])
	}
	acked := ack(t, l, 2, 3)
	spoil(again)
	equals(t, "R3: Ack, beside Kept", acked, all[2:4])
	lost := l.Lose(5, 6)
	spoil(acked)
	spoil(more)
	equals(t, "R3: Lose, beside Kept, Ack and Oldest", lost, all[5:7])
	spoil(lost)
	equals(t, "R3: Kept, beside Ack and Lose", slices.Collect(l.Kept()), riches(0, 1, 4, 7))
	last := slices.Collect(l.Kept())
	dropped := l.Drop()
	spoil(last)
	equals(t, "R3: Drop, beside Kept", dropped, riches(0, 1, 4, 7))
}

// The parts of one answer share nothing with one another.
func TestNoTwoListsShare(t *testing.T) {
	all := riches(0, 1, 2, 3)
	for _, answer := range []func(l *Ledger) []api.Sent{
		func(l *Ledger) []api.Sent { return slices.Collect(l.Kept()) },
		func(l *Ledger) []api.Sent { return l.Oldest(4) },
		func(l *Ledger) []api.Sent { a, _ := l.Ack(api.Run{Lo: 0, Hi: 3}); return a },
		func(l *Ledger) []api.Sent { return l.Lose(0, 1, 2, 3) },
		func(l *Ledger) []api.Sent { return l.Drop() },
	} {
		for i := range all {
			got := answer(filled(t, 4))
			spoilFrames(got[i].Frames)
			got[i] = rich(int64(i))
			equals(t, "R3: one packet of an answer, written over", got, all)
			got = answer(filled(t, 4))
			f := got[i].Frames
			_ = append(f[0].Data, 9, 9, 9, 9)
			_ = append(f[1].Runs, api.Run{}, api.Run{}, api.Run{})
			_ = append(f[2].Data, 9)
			_ = append(f[:1], api.Frame{})
			f[1] = rich(int64(i)).Frames[1]
			equals(t, "R3: the lists of an answer, added to", got, all)
		}
	}
}

// A range that goes on gives what was kept, whatever is done with what was answered meanwhile.
func TestSpoiledMeanwhile(t *testing.T) {
	all := riches(0, 1, 2, 3, 4, 5)
	for _, answer := range []func(l *Ledger) []api.Sent{
		func(l *Ledger) []api.Sent { return slices.Collect(l.Kept()) },
		func(l *Ledger) []api.Sent { return l.Oldest(6) },
		func(l *Ledger) []api.Sent { a, _ := l.Ack(api.Run{Lo: 0, Hi: 5}); return a },
		func(l *Ledger) []api.Sent { return l.Lose(0, 1, 2, 3, 4, 5) },
		func(l *Ledger) []api.Sent { return l.Drop() },
		func(l *Ledger) []api.Sent { return forgetSix(l) },
	} {
		l := filled(t, 6)
		var got []api.Sent
		for s := range l.Kept() {
			if len(got) == 1 {
				spoil(answer(l))
			}
			got = append(got, s)
		}
		equals(t, "R3: a range, and its packets answered and written over meanwhile", got, all)
	}
}

// forgetSix adds so many that the first six are forgotten, and tells those.
func forgetSix(l *Ledger) []api.Sent {
	var gone []api.Sent
	for x := int64(6); x < api.MaxSent+6; x++ {
		one, _ := l.Add(rich(x))
		gone = append(gone, one...)
	}
	return gone
}
