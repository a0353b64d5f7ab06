package loss

import (
	"math"
	"reflect"
	"testing"

	"portage/api"
)

// refusesAck fails if Ack answers otherwise than by that error, or changes something.
func refusesAck(t *testing.T, say string, l *Loss, now int64, space int, f api.Frame, want api.Errno) {
	t.Helper()
	ahead := look(l)
	if o, err := l.Ack(now, space, f); err != want || !reflect.DeepEqual(o, api.Outcome{}) {
		t.Errorf("Errors: %s: Ack(%d, %+v) = %+v, %d, want nothing and %d", say, space, f, o, err, want)
	}
	same(t, "Errors: Ack, "+say, l, ahead)
}

func TestAckRefuses(t *testing.T) {
	c := plain()
	c.First[api.Initial] = 5
	l := made(t, c, api.Client)
	send(t, l, 10, api.Initial, asking(1), asking(1), bare())
	send(t, l, 10, api.Handshake, asking(1))
	l.Drop(10, api.Handshake)
	for _, space := range noSpaces {
		refusesAck(t, "a space that is none", l, 900, space, frame(5, 5), api.ErrArg)
		refusesAck(t, "a space that is none, of another kind", l, 900, space, api.Frame{Kind: api.KPing}, api.ErrArg)
	}
	for _, kind := range []int{-1, api.KPadding, api.KPing, 3, api.KReset, api.KStream, api.KClose, api.KDone, math.MinInt, math.MaxInt} {
		f := frame(5, 5)
		f.Kind = kind
		refusesAck(t, "another kind", l, 900, api.Initial, f, api.ErrArg)
		refusesAck(t, "another kind, in a space that was dropped", l, 900, api.Handshake, f, api.ErrArg)
	}
	refusesAck(t, "a space that was dropped", l, 900, api.Handshake, frame(0, 0), api.ErrOver)
	refusesAck(t, "nothing, in a space that was dropped", l, 900, api.Handshake, frame(), api.ErrOver)
	refusesAck(t, "a run that is none, in a space that was dropped", l, 900, api.Handshake, frame(1, 0), api.ErrOver)
	for _, ends := range [][]int64{{6, 5}, {-1, 5}, {math.MaxInt64, math.MinInt64}, {5, 5, 7, 6}, {5, 5, -2, -1}, {-1, 9}, {6, 5, 9, 9}} {
		refusesAck(t, "a run that is none", l, 900, api.Initial, frame(ends...), api.ErrArg)
	}
	for _, ends := range [][]int64{{4, 4}, {4, 5}, {8, 8}, {5, 8}, {0, math.MaxInt64}, {5, 5, 8, 8}, {9, 9, 6, 5}, {5, 6, 0, 0}} {
		refusesAck(t, "a number that was never sent", l, 900, api.Initial, frame(ends...), api.ErrLedgerNever)
	}
}

// What is acknowledged is answered, rising, whatever the order of the runs.
func TestAckAnswers(t *testing.T) {
	l := server(t)
	for i := range int64(5) {
		send(t, l, i, api.App, asking(100+i))
	}
	o := ack(t, l, 10, api.App, 4, 4, 1, 2, 3, 4, 2, 2)
	tells(t, "P14.4: out of order, and twice", o.Acked, 1, 2, 3, 4)
	tells(t, "P14.5: the one below", o.Lost, 0)
	if s := o.Acked[3]; !reflect.DeepEqual(s, api.Sent{Number: 4, Time: 4, Size: 104, Eliciting: true, Counted: true, Told: -1}) {
		t.Errorf("P14.4: it is %+v", s)
	}
	if s := o.Lost[0]; !reflect.DeepEqual(s, api.Sent{Size: 100, Eliciting: true, Counted: true, Told: -1}) {
		t.Errorf("P14.5: it is %+v", s)
	}
}

// An acknowledgement of nothing new moves the clock, and that is all.
func TestAckOfNothingNew(t *testing.T) {
	l := made(t, plain(), api.Client)
	send(t, l, 0, api.Handshake, asking(1), asking(1), padded(1), bare(), bare())
	send(t, l, 0, api.Initial, asking(1))
	l.Timeout(300000)
	l.Blocked(300000, true)
	ack(t, l, 300000, api.Initial, 0, 0)
	send(t, l, 300010, api.Handshake, bare(), bare(), bare())
	for i, f := range []api.Frame{frame(), frame(3, 3), frame(4, 4, 3, 3), frame(7, 7), {Kind: api.KAck, Runs: []api.Run{{Lo: 5, Hi: 6}}, Marks: true, Counts: [3]int64{1, 1, 1}}, {Kind: api.KAck, Delay: 5, Marks: true, Counts: [3]int64{-1, 1, 1}}} {
		ahead := look(l)
		ahead.own.clock = 400000 + int64(i)
		for _, r := range f.Runs {
			ahead.spaces[api.Handshake].Largest = max(ahead.spaces[api.Handshake].Largest, r.Hi)
		}
		if o := take(t, l, 400000+int64(i), api.Handshake, f); !reflect.DeepEqual(o, api.Outcome{}) {
			t.Errorf("P14.4: nothing new: %+v answers %+v", f, o)
		}
		same(t, "P14.4: nothing new", l, ahead)
	}
	if v := l.View(); v.Count != 1 || v.Spaces[api.Handshake].Largest != 7 || v.Spaces[api.Handshake].Kept != 3 {
		t.Errorf("P14.4: nothing new: %+v", v)
	}
	// Whatever was told of numbers counts with the next one that is new.
	tells(t, "P14.5: one that is new behind it", ack(t, l, 400010, api.Handshake, 2, 2).Lost, 0, 1)
}

// A sample is taken of the greatest number alone, if it is new, and one that is new is Eliciting.
func TestSample(t *testing.T) {
	for _, c := range []struct {
		say    string
		sent   []api.Sent // at 100, 200 and so on
		ahead  []int64    // runs that are acknowledged ahead of it
		ends   []int64
		latest int64 // 0: there is no sample
	}{
		{"the one", []api.Sent{asking(1)}, nil, []int64{0, 0}, 900},
		{"the last of two", []api.Sent{asking(1), asking(1)}, nil, []int64{0, 1}, 800},
		{"the first of two", []api.Sent{asking(1), asking(1)}, nil, []int64{0, 0}, 900},
		{"padded alone", []api.Sent{padded(1)}, nil, []int64{0, 0}, 0},
		{"the last padded, another one Eliciting", []api.Sent{asking(1), padded(1)}, nil, []int64{0, 1}, 800},
		{"the last padded, the first Eliciting, one between", []api.Sent{asking(1), padded(1), padded(1)}, nil, []int64{2, 2, 0, 0}, 700},
		{"all padded", []api.Sent{padded(1), padded(1)}, nil, []int64{0, 1}, 0},
		{"the last bare", []api.Sent{asking(1), bare()}, nil, []int64{0, 1}, 0},
		{"the last bare, in a run of its own", []api.Sent{asking(1), asking(1), bare()}, nil, []int64{2, 2, 0, 0}, 0},
		{"the last known already", []api.Sent{asking(1), asking(1)}, []int64{1, 1}, []int64{0, 1}, 0},
		{"the last known already, runs out of order", []api.Sent{asking(1), asking(1)}, []int64{1, 1}, []int64{0, 0, 1, 1}, 0},
		{"the last one's run first", []api.Sent{asking(1), asking(1), asking(1)}, nil, []int64{2, 2, 0, 0}, 700},
		{"the last one's run last", []api.Sent{asking(1), asking(1), asking(1)}, nil, []int64{0, 0, 2, 2}, 700},
		{"below what is known already", []api.Sent{asking(1), asking(1)}, []int64{1, 1}, []int64{0, 0}, 900},
	} {
		for space := range api.Spaces {
			l := server(t)
			for i, s := range c.sent {
				send(t, l, 100*int64(i+1), space, s)
			}
			if c.ahead != nil {
				ack(t, l, 500, space, c.ahead...)
			}
			was := l.View().RTT
			l.Events()
			ack(t, l, 1000, space, c.ends...)
			got, events := l.View().RTT, l.Events()
			if c.latest == 0 {
				if got != was || events[0].Kind == api.EvSample {
					t.Errorf("P14.4: %s: a sample: %+v, %+v", c.say, got, events)
				}
				continue
			}
			want := api.Event{Kind: api.EvSample, Time: 1000, Space: space, A: got.Latest, B: got.Smooth, C: got.Var}
			if got.Latest != c.latest || events[0] != want {
				t.Errorf("P14.4: %s: the latest is %d, want %d, and told is %+v, want %+v", c.say, got.Latest, c.latest, events[0], want)
			}
			if was.Has && got.First != 500 || !was.Has && (got.First != 1000 || got.Smooth != c.latest || got.Var != c.latest/2) {
				t.Errorf("P14.4: %s: %+v", c.say, got)
			}
		}
	}
}

// delayed is for how long an acknowledgement counts as put off: behind a round trip of 0 one of MaxTime is smoothed to the eighth of what is left of it.
func delayed(t *testing.T, l *Loss, space int, delay int64) int64 {
	t.Helper()
	send(t, l, 0, space, asking(1), asking(1))
	ack(t, l, 0, space, 0, 0)
	f := frame(1, 1)
	f.Delay = delay
	take(t, l, api.MaxTime, space, f)
	return api.MaxTime - 8*l.View().RTT.Smooth
}

func TestDelay(t *testing.T) {
	const last = api.MaxTime
	for _, c := range []struct {
		space   int
		confirm bool
		putOff  int64
		exp     int
		delay   int64
		want    int64
	}{
		// Initial: none.
		{api.Initial, false, 4096, 3, 100, 0}, {api.Initial, true, 4096, 3, 100, 0}, {api.Initial, false, 4096, 20, last, 0},
		// App: by the other end's exponent.
		{api.App, false, 0, 0, 0, 0}, {api.App, false, 0, 0, 800, 800}, {api.App, false, 0, 1, 800, 1600}, {api.App, false, 0, 3, 100, 800},
		{api.App, false, 0, 10, 100, 102400}, {api.App, false, 0, 19, 3, 3 << 19}, {api.App, false, 0, 20, 3, 3 << 20},
		{api.App, false, 0, 21, 3, 3 << 20}, {api.App, false, 0, math.MaxInt, 3, 3 << 20},
		{api.App, false, 0, -1, 800, 800}, {api.App, false, 0, math.MinInt, 800, 800},
		// Below 0, and very large ones.
		{api.App, false, 0, 3, -1, 0}, {api.App, false, 0, 20, math.MinInt64, 0}, {api.App, false, 0, 0, math.MinInt64, 0},
		{api.App, false, 0, 0, last - 8, last - 8}, {api.App, false, 0, 0, last, last}, {api.App, false, 0, 0, last + 1, last},
		{api.App, false, 0, 0, math.MaxInt64, last}, {api.App, false, 0, 3, last>>3 - 1, last - 8}, {api.App, false, 0, 3, last >> 3, last},
		{api.App, false, 0, 3, last>>3 + 1, last}, {api.App, false, 0, 3, math.MaxInt64, last}, {api.App, false, 0, 3, 1 << 61, last},
		{api.App, false, 0, 20, last>>20 - 1, last - 1<<20}, {api.App, false, 0, 20, last >> 20, last}, {api.App, false, 0, 20, last>>20 + 1, last},
		{api.App, false, 0, 20, 1 << 44, last}, {api.App, false, 0, 20, 1<<44 + 1, last}, {api.App, false, 0, 20, math.MaxInt64, last},
		// Confirmed: at most what the other end said.
		{api.App, true, 0, 3, 100, 0}, {api.App, true, 792, 3, 100, 792}, {api.App, true, 800, 3, 100, 800}, {api.App, true, 808, 3, 100, 800},
		{api.App, true, 4096, 20, math.MaxInt64, 4096}, {api.App, true, 4096, 3, -1, 0}, {api.App, false, 4096, 20, 1, 1 << 20},
		{api.App, true, api.MaxSpan, 20, math.MaxInt64, api.MaxSpan}, {api.App, true, api.MaxSpan + 8, 20, math.MaxInt64, api.MaxSpan},
		{api.App, true, math.MaxInt64, 20, math.MaxInt64, api.MaxSpan}, {api.App, true, -8, 3, 100, 0}, {api.App, true, math.MinInt64, 3, 100, 0},
		// Handshake: by 3, whatever the other end's is.
		{api.Handshake, false, 0, 3, 100, 800}, {api.Handshake, false, 0, 0, 100, 800}, {api.Handshake, false, 0, 20, 100, 800},
		{api.Handshake, false, 0, 20, last>>3 - 1, last - 8}, {api.Handshake, false, 0, 0, last>>3 + 1, last}, {api.Handshake, false, 0, 0, -1, 0},
		{api.Handshake, true, 400, 20, 100, 400}, {api.Handshake, true, 4096, 0, 100, 800}, {api.Handshake, true, 0, 3, 100, 0},
	} {
		l := made(t, plain(), api.Server)
		l.Peer(api.Params{AckDelay: c.putOff, AckExp: c.exp})
		if c.confirm {
			l.Confirm(0)
		}
		if got := delayed(t, l, c.space, c.delay); got != c.want {
			t.Errorf("P14.4: %+v: it counts as %d", c, got)
		}
	}
	for exp := range 21 {
		for space, want := range []int64{0, 64, 8 << exp} {
			l := made(t, plain(), api.Server)
			l.Peer(api.Params{AckExp: exp})
			if got := delayed(t, l, space, 8); got != want {
				t.Errorf("P14.4: in %d, with the exponent %d: 8 counts as %d, want %d", space, exp, got, want)
			}
		}
	}
	if got := delayed(t, made(t, plain(), api.Server), api.App, 100); got != 800 {
		t.Errorf("P14.4: nothing is told of the other end: 100 counts as %d, want 800", got)
	}
	l := made(t, plain(), api.Server)
	l.Confirm(0)
	if got := delayed(t, l, api.App, 100); got != 0 {
		t.Errorf("P14.4: nothing is told of the other end, and confirmed: 100 counts as %d, want 0", got)
	}
}

// A mark is an acknowledgement with counts of marks, of the space's next packet, which was sent at a time.
type mark struct {
	space  int
	sent   int64
	now    int64
	counts [3]int64
	cut    bool // did the window's recovery period begin at now?
	heeded bool // are the space's counts looked at behind it?
}

func TestMarks(t *testing.T) {
	for i, row := range [][]mark{
		{{0, 1, 2, [3]int64{0, 0, 0}, false, true}, {0, 3, 4, [3]int64{0, 0, 1}, true, true}, {0, 5, 6, [3]int64{0, 0, 1}, false, true}, {0, 7, 8, [3]int64{0, 0, 2}, true, true}},
		{{1, 1, 2, [3]int64{9, 8, 7}, true, true}, {1, 3, 4, [3]int64{10, 8, 7}, false, true}, {1, 5, 6, [3]int64{10, 9, 7}, false, true}, {1, 7, 8, [3]int64{11, 10, 9}, true, true}},
		// One that falls: the others may have risen.
		{{2, 1, 2, [3]int64{5, 5, 5}, true, true}, {2, 3, 4, [3]int64{4, 6, 6}, false, false}, {2, 5, 6, [3]int64{7, 7, 7}, false, false}},
		{{2, 1, 2, [3]int64{5, 5, 5}, true, true}, {2, 3, 4, [3]int64{6, 4, 6}, false, false}, {2, 5, 6, [3]int64{7, 7, 7}, false, false}},
		{{2, 1, 2, [3]int64{5, 5, 5}, true, true}, {2, 3, 4, [3]int64{6, 6, 4}, false, false}, {2, 5, 6, [3]int64{7, 7, 7}, false, false}},
		// They are what was told last, not just where the third one has risen.
		{{0, 1, 2, [3]int64{5, 0, 0}, false, true}, {0, 3, 4, [3]int64{4, 0, 1}, false, false}},
		{{0, 1, 2, [3]int64{0, 5, 0}, false, true}, {0, 3, 4, [3]int64{5, 4, 1}, false, false}},
		// Below 0.
		{{0, 1, 2, [3]int64{-1, 0, 0}, false, false}, {0, 3, 4, [3]int64{0, 0, 1}, false, false}},
		{{0, 1, 2, [3]int64{0, math.MinInt64, 1}, false, false}},
		{{0, 1, 2, [3]int64{0, 0, -1}, false, false}},
		{{0, 1, 2, [3]int64{math.MaxInt64, math.MaxInt64, math.MaxInt64}, true, true}, {0, 3, 4, [3]int64{math.MaxInt64, math.MaxInt64, math.MaxInt64}, false, true}},
		// Each space has its own.
		{{0, 1, 2, [3]int64{5, 5, 5}, true, true}, {1, 3, 4, [3]int64{1, 1, 1}, true, true}, {2, 5, 6, [3]int64{0, 0, 1}, true, true}, {1, 7, 8, [3]int64{0, 1, 1}, false, false}, {0, 9, 10, [3]int64{5, 5, 6}, true, true}, {2, 11, 12, [3]int64{0, 0, 2}, true, true}, {1, 13, 14, [3]int64{9, 9, 9}, false, false}},
		// Sent up to when the window was cut, it was cut for that, too; but the counts are taken down.
		{{0, 1, 9, [3]int64{0, 0, 1}, true, true}, {0, 9, 10, [3]int64{0, 0, 2}, false, true}, {0, 10, 11, [3]int64{0, 0, 2}, false, true}, {0, 11, 12, [3]int64{0, 0, 3}, true, true}},
	} {
		l := server(t)
		var next [api.Spaces]int64
		for k, m := range row {
			send(t, l, m.sent, m.space, asking(100))
			f := frame(next[m.space], next[m.space])
			f.Marks, f.Counts = true, m.counts
			take(t, l, m.now, m.space, f)
			next[m.space]++
			v := l.View()
			if (v.Window.Began == m.now) != m.cut || v.Marks[m.space] != m.heeded {
				t.Errorf("P14.4: marks, row %d, %d: %+v: %+v, %v", i, k, m, v.Window, v.Marks)
			}
		}
	}
}

// Counts are looked at, if the frame tells them, of the greatest number, if that is new, be it Eliciting or not.
func TestMarksOfWhat(t *testing.T) {
	for _, c := range []struct {
		say   string
		sent  []api.Sent
		ahead int64 // it is acknowledged ahead
		ends  []int64
		tell  bool
		cut   bool
	}{
		{"the one", []api.Sent{asking(1), asking(1)}, 0, []int64{1, 1}, true, true},
		{"it tells no counts", []api.Sent{asking(1), asking(1)}, 0, []int64{1, 1}, false, false},
		{"padded alone", []api.Sent{asking(1), padded(1)}, 0, []int64{1, 1}, true, true},
		{"the greatest bare", []api.Sent{asking(1), asking(1), bare()}, 0, []int64{1, 2}, true, false},
		{"the greatest known already", []api.Sent{asking(1), asking(1)}, 1, []int64{0, 1}, true, false},
		{"runs out of order", []api.Sent{asking(1), asking(1), asking(1)}, 0, []int64{1, 1, 2, 2}, true, true},
		{"with others that are known", []api.Sent{asking(1), asking(1)}, 0, []int64{0, 1}, true, true},
	} {
		for _, counts := range [][3]int64{{0, 0, 1}, {-1, 0, 0}} {
			l := server(t)
			for _, s := range c.sent {
				send(t, l, 5, api.App, s)
			}
			ack(t, l, 5, api.App, c.ahead, c.ahead)
			f := frame(c.ends...)
			f.Marks, f.Counts = c.tell, counts
			take(t, l, 6, api.App, f)
			v := l.View()
			if cut := v.Window.Began == 6; counts[2] == 1 && cut != c.cut || v.Marks[api.App] != (counts[2] == 1 || !c.cut) {
				t.Errorf("P14.4: marks: %s, %d: %+v, %v", c.say, counts, v.Window, v.Marks)
			}
			// What wasn't looked at is not what the next one is held against.
			send(t, l, 7, api.App, asking(1))
			f = frame(int64(len(c.sent)), int64(len(c.sent)))
			f.Marks, f.Counts = true, [3]int64{0, 0, 1}
			take(t, l, 8, api.App, f)
			if cut := l.View().Window.Began == 8; cut == c.cut {
				t.Errorf("P14.4: marks: %s, %d, and one more: %+v", c.say, counts, l.View().Window)
			}
		}
	}
}

// The cut of marks is by the Time of the last one that is new.
func TestMarksByTheLastOne(t *testing.T) {
	l := server(t)
	send(t, l, 1, api.App, asking(1))
	f := frame(0, 0)
	f.Marks, f.Counts[2] = true, 1
	take(t, l, 10, api.App, f)
	send(t, l, 10, api.App, asking(1))
	send(t, l, 11, api.App, asking(1))
	f = frame(1, 2)
	f.Marks, f.Counts[2] = true, 2
	take(t, l, 12, api.App, f)
	windows(t, "P14.4: marks: the last one went out behind the cut", l, 3000, 3000, 0, 12)
	send(t, l, 12, api.App, asking(1), asking(1))
	f = frame(3, 4)
	f.Marks, f.Counts[2] = true, 3
	take(t, l, 13, api.App, f)
	windows(t, "P14.4: marks: it did not", l, 3000, 3000, 0, 12)
}

// In order: the sample, marks, losses, and at last what was acknowledged raises the window.
func TestAckInOrder(t *testing.T) {
	l := confirmed(t)
	l.Limited(false)
	for i := range int64(5) {
		send(t, l, i, api.App, asking(1000))
	}
	l.Events()
	f := frame(3, 4)
	f.Marks, f.Counts[2] = true, 1
	take(t, l, 50004, api.App, f)
	// The window was cut for the mark first: neither did the losses cut it again, nor did the two raise it.
	windows(t, "P14.4: in order", l, 6000, 6000, 1000, 50004)
	events(t, "P14.4: in order", l,
		api.Event{Kind: api.EvSample, Time: 50004, Space: api.App, A: 50000, B: 50000, C: 25000},
		api.Event{Kind: api.EvLost, Time: 50004, Space: api.App},
		api.Event{Kind: api.EvLost, Time: 50004, Space: api.App, Number: 1},
		api.Event{Kind: api.EvAcked, Time: 50004, Space: api.App, Number: 3},
		api.Event{Kind: api.EvAcked, Time: 50004, Space: api.App, Number: 4},
		api.Event{Kind: api.EvWindow, Time: 50004, A: 6000, B: 6000},
		api.Event{Kind: api.EvTimer, Time: 50004, Space: api.App, A: 2 + 56250, B: 1})
}

// What is acknowledged is counted with its own Time and Size, rising.
func TestAckedOneByOne(t *testing.T) {
	l := server(t)
	l.Limited(false)
	send(t, l, 0, api.App, asking(1))
	f := frame(0, 0)
	f.Marks, f.Counts[2] = true, 1
	take(t, l, 10, api.App, f)
	windows(t, "P14.4: cut", l, 6000, 6000, 0, 10)
	send(t, l, 10, api.App, asking(5900))
	send(t, l, 11, api.App, asking(5000))
	send(t, l, 12, api.App, asking(1000))
	// 1 went out as the cut was made: 6000 bytes of the others raise it by one datagram.
	ack(t, l, 13, api.App, 1, 3)
	windows(t, "P14.4: one by one", l, 7200, 6000, 0, 10)
}

// COUNT begins anew, if the other end is known to be who can be sent to.
func TestCountBeginsAnew(t *testing.T) {
	for _, c := range []struct {
		say   string
		role  int
		space int
		turn  func(l *Loss)
		count int
	}{
		{"a server, Initial", api.Server, api.Initial, nil, 0},
		{"a server, Handshake", api.Server, api.Handshake, nil, 0},
		{"a server, App", api.Server, api.App, nil, 0},
		{"a client, Initial", api.Client, api.Initial, nil, 2},
		{"a client, Handshake", api.Client, api.Handshake, nil, 0},
		{"a client, App", api.Client, api.App, nil, 2},
		{"a client with keys, Initial", api.Client, api.Initial, func(l *Loss) { l.Keys(0) }, 2},
		{"a client that is confirmed, Initial", api.Client, api.Initial, func(l *Loss) { l.Confirm(0) }, 0},
		{"a client that is confirmed, App", api.Client, api.App, func(l *Loss) { l.Confirm(0) }, 0},
		{"a client that had one of Handshake", api.Client, api.Initial, func(l *Loss) { l.Ack(0, api.Handshake, frame(0, 0)) }, 0},
		{"a client that had one of Initial", api.Client, api.App, func(l *Loss) { l.Ack(0, api.Initial, frame(0, 0)) }, 2},
	} {
		l := made(t, plain(), c.role)
		for space := range api.Spaces {
			send(t, l, 0, space, asking(1), asking(1), asking(1), bare())
		}
		if c.turn != nil {
			c.turn(l)
		}
		l.Timeout(l.Deadline())
		l.Timeout(l.Deadline())
		if got := l.View().Count; got != 2 {
			t.Fatalf("P14.7: %s: two expiries, COUNT is %d", c.say, got)
		}
		at := l.clock
		ack(t, l, at, c.space, 3, 3)
		if got := l.View().Count; got != 2 {
			t.Errorf("P14.4: %s: nothing new: COUNT is %d, want 2", c.say, got)
		}
		ack(t, l, at, c.space, 1, 2)
		if got := l.View().Count; got != c.count {
			t.Errorf("P14.4: %s: COUNT is %d, want %d", c.say, got, c.count)
		}
	}
}

// Behind an acknowledgement of Handshake a client has no timer, as long as nothing is under way; its deadline is by the new COUNT.
func TestAckSetsTheTimer(t *testing.T) {
	l := made(t, plain(), api.Client)
	send(t, l, 0, api.Initial, asking(1))
	send(t, l, 0, api.Handshake, asking(1))
	l.Timeout(300000)
	waits(t, "P14.7: one expiry", l, asks, api.Initial, 900000)
	ack(t, l, 300000, api.Handshake, 0, 0)
	// A round trip of 300000: Base is 900000, and COUNT 0.
	waits(t, "P14.4: Handshake is acknowledged", l, asks, api.Initial, 1200000)
	ack(t, l, 300000, api.Initial, 0, 0)
	idle(t, "P14.4: nothing is under way", l)
}
