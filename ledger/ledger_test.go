package ledger

import (
	"math"
	"reflect"
	"slices"
	"testing"

	"portage/api"
)

// made is a new one.
func made(t *testing.T, first int64) *Ledger {
	t.Helper()
	l, err := New(first)
	if l == nil || err != api.OK {
		t.Fatalf("P13.1: New(%d) = %v, %d, want one and OK", first, l, err)
	}
	return l
}

// asking is a packet that wants an acknowledgement.
func asking(number, time int64) api.Sent {
	return api.Sent{Number: number, Time: time, Size: 100, Eliciting: true, Counted: true, Told: -1}
}

// padded is one that is Counted for its padding alone.
func padded(number, time int64) api.Sent {
	return api.Sent{Number: number, Time: time, Size: 30, Counted: true, Told: -1}
}

// bare is one that isn't Counted.
func bare(number, time int64) api.Sent {
	return api.Sent{Number: number, Time: time, Size: 7, Told: -1}
}

// add adds packets for which none is forgotten.
func add(t *testing.T, l *Ledger, packets ...api.Sent) {
	t.Helper()
	for _, s := range packets {
		if gone, err := l.Add(s); len(gone) != 0 || err != api.OK {
			t.Fatalf("P13.3: Add(%+v) = %+v, %d, want nothing and OK", s, gone, err)
		}
	}
}

// addMany adds packets of the numbers from lo to hi, at 0.
func addMany(t *testing.T, l *Ledger, lo, hi int64, kind func(number, time int64) api.Sent) {
	t.Helper()
	for x := lo; x <= hi; x++ {
		add(t, l, kind(x, 0))
	}
}

// refuses fails if Add answers otherwise than by that error, or changes something.
func refuses(t *testing.T, say string, l *Ledger, s api.Sent, want api.Errno) {
	t.Helper()
	ahead := look(l)
	if gone, err := l.Add(s); len(gone) != 0 || err != want {
		t.Errorf("Errors: %s: Add(%+v) = %+v, %d, want nothing and %d", say, s, gone, err, want)
	}
	same(t, "Errors: Add, "+say, l, ahead)
}

// numbers are those of packets.
func numbers(packets []api.Sent) []int64 {
	var l []int64
	for _, s := range packets {
		l = append(l, s.Number)
	}
	return l
}

// tells fails if packets have other numbers.
func tells(t *testing.T, say string, got []api.Sent, want ...int64) {
	t.Helper()
	if !slices.Equal(numbers(got), want) {
		t.Errorf("%s: packets %d, want %d", say, numbers(got), want)
	}
}

// nexts fails if Next answers otherwise.
func nexts(t *testing.T, say string, l *Ledger, want int64, wantErr api.Errno) {
	t.Helper()
	for range 2 {
		if got, err := l.Next(); got != want || err != wantErr {
			t.Errorf("%s: Next() = %d, %d, want %d, %d", say, got, err, want, wantErr)
		}
	}
}

// views fails if View answers otherwise.
func views(t *testing.T, say string, l *Ledger, want api.Space) {
	t.Helper()
	if got := l.View(); got != want {
		t.Errorf("%s: View() = %+v, want %+v", say, got, want)
	}
}

// A state is all that can be asked of a ledger.
type state struct {
	next   int64
	err    api.Errno
	view   api.Space
	kept   []api.Sent
	oldest []api.Sent
	told   []api.Run
}

// look asks all of it.
func look(l *Ledger) state {
	s := state{view: l.View(), kept: slices.Collect(l.Kept()), oldest: l.Oldest(math.MaxInt), told: l.acked.Runs()}
	s.next, s.err = l.Next()
	return s
}

// same fails if a ledger isn't as it was.
func same(t *testing.T, say string, l *Ledger, want state) {
	t.Helper()
	if got := look(l); !reflect.DeepEqual(got, want) {
		t.Errorf("%s: it is %+v, and was %+v", say, got, want)
	}
}

func TestExamples(t *testing.T) {
	l := made(t, 7)
	views(t, "P13.7: a new one", l, api.Space{Open: true, Next: 7, Largest: -1, Last: -1, Loss: -1})
	add(t, l, asking(7, 5), api.Sent{Number: 8, Time: 6}, asking(9, 6))
	views(t, "P13.7: three are sent", l, api.Space{Open: true, Next: 10, Largest: -1, Last: 6, Loss: -1, Flight: 200, Kept: 2, Waiting: 2})
	refuses(t, "a number that was sent", l, asking(9, 6), api.ErrLedgerOrder)
	refuses(t, "a time that falls", l, asking(10, 5), api.ErrLedgerOrder)
	denies(t, "one too high", l, api.ErrLedgerNever, api.Run{Lo: 10, Hi: 10})
	denies(t, "one too low", l, api.ErrLedgerNever, api.Run{Lo: 6, Hi: 7})
	tells(t, "P13.4: 8-9", ack(t, l, 8, 9), 9)
	views(t, "P13.7: 8-9 are acknowledged", l, api.Space{Open: true, Next: 10, Largest: 9, Last: 6, Loss: -1, Flight: 100, Kept: 1, Waiting: 1})
	tells(t, "P13.4: 8-9 again", ack(t, l, 8, 9))
	told(t, "P13.6: one that is bare", l, 8, 8, true)
	told(t, "P13.6: below it", l, 0, 7, false)
	add(t, l, asking(10, 9))
	tells(t, "P13.5: 10, 9, 10", l.Lose(10, 9, 10), 10)
	views(t, "P13.7: 10 is lost", l, api.Space{Open: true, Next: 11, Largest: 9, Last: 9, Loss: -1, Flight: 100, Kept: 1, Waiting: 1})
	tells(t, "P13.5: all", l.Drop(), 7)
	views(t, "P13.7: dropped", l, api.Space{Next: 11, Largest: 9, Last: 9, Loss: -1})
	nexts(t, "P13.2: dropped", l, 0, api.ErrOver)
}

func TestNewTakes(t *testing.T) {
	for _, first := range []int64{0, 1, 7, 1 << 32, api.MaxNumber - 1, api.MaxNumber} {
		l := made(t, first)
		views(t, "P13.1: it keeps nothing", l, api.Space{Open: true, Next: first, Largest: -1, Last: -1, Loss: -1})
		nexts(t, "P13.1: the next number is first", l, first, api.OK)
		for s := range l.Kept() {
			t.Errorf("P13.1: a new one keeps %+v", s)
		}
		tells(t, "P13.1: it keeps nothing", l.Oldest(5))
		told(t, "P13.1: nothing is acknowledged", l, math.MinInt64, math.MaxInt64, false)
		tells(t, "P13.1: it keeps nothing", l.Lose(first))
		denies(t, "nothing was sent", l, api.ErrLedgerNever, api.Run{Lo: first, Hi: first})
		add(t, l, asking(first, 0))
		tells(t, "P13.4: the first number", ack(t, l, first, first), first)
		tells(t, "P13.5: it keeps nothing", l.Drop())
	}
}

func TestNewRefuses(t *testing.T) {
	for _, first := range []int64{math.MinInt64, -api.MaxNumber, -2, -1, api.MaxNumber + 1, api.MaxNumber + 2, math.MaxInt64} {
		if l, err := New(first); l != nil || err != api.ErrArg {
			t.Errorf("Errors: New(%d) = %v, %d, want nil and ErrArg", first, l, err)
		}
	}
}

func TestNext(t *testing.T) {
	l := made(t, 40)
	for i, kind := range []func(number, time int64) api.Sent{asking, bare, padded, padded, bare, bare, asking} {
		nexts(t, "P13.2: behind each Add one more", l, 40+int64(i), api.OK)
		add(t, l, kind(40+int64(i), 3))
	}
	ahead := look(l)
	nexts(t, "P13.2: behind seven", l, 47, api.OK)
	same(t, "P13.2: Next", l, ahead)
	refuses(t, "a number too high", l, asking(48, 3), api.ErrLedgerOrder)
	ack(t, l, 46, 46)
	l.Lose(40)
	nexts(t, "P13.2: nothing but Add counts", l, 47, api.OK)
	l.Drop()
	nexts(t, "Errors: it isn't open", l, 0, api.ErrOver)
}

func TestLastNumber(t *testing.T) {
	l := made(t, api.MaxNumber-1)
	add(t, l, asking(api.MaxNumber-1, 5))
	nexts(t, "P13.2: the last number", l, api.MaxNumber, api.OK)
	add(t, l, bare(api.MaxNumber, 5))
	nexts(t, "Errors: MaxNumber was sent", l, 0, api.ErrLedgerLast)
	views(t, "P13.7: MaxNumber was sent", l, api.Space{Open: true, Next: api.MaxNumber + 1, Largest: -1, Last: 5, Loss: -1, Flight: 100, Kept: 1, Waiting: 1})
	for _, x := range []int64{0, api.MaxNumber - 1, api.MaxNumber, api.MaxNumber + 1, math.MaxInt64} {
		refuses(t, "MaxNumber was sent", l, asking(x, 5), api.ErrLedgerLast)
		refuses(t, "MaxNumber was sent, and more is wrong", l, api.Sent{Number: x, Time: -1, Size: -1, Eliciting: true}, api.ErrLedgerLast)
	}
	denies(t, "one number beyond the last one", l, api.ErrLedgerNever, api.Run{Lo: api.MaxNumber, Hi: api.MaxNumber + 1})
	tells(t, "P13.4: both", ack(t, l, api.MaxNumber-1, api.MaxNumber), api.MaxNumber-1)
	views(t, "P13.7: MaxNumber was acknowledged", l, api.Space{Open: true, Next: api.MaxNumber + 1, Largest: api.MaxNumber, Last: 5, Loss: -1})
	l.Drop()
	nexts(t, "Errors: not open, and MaxNumber was sent", l, 0, api.ErrOver)
	refuses(t, "not open, and MaxNumber was sent", l, asking(api.MaxNumber, 5), api.ErrOver)
	views(t, "P13.7: Next as it was", l, api.Space{Next: api.MaxNumber + 1, Largest: api.MaxNumber, Last: 5, Loss: -1})
}

func TestAddTakes(t *testing.T) {
	l := made(t, 0)
	flight := int64(0)
	for i, s := range []api.Sent{
		{Time: 0, Size: 0, Counted: true}, {Time: 0, Size: 1, Counted: true, Eliciting: true}, {Time: 0, Size: 65535, Counted: true},
		{Time: 1, Size: 65534, Counted: true, Eliciting: true}, {Time: 1, Size: 65535}, {Time: 1, Size: 0}, {Time: api.MaxTime - 1, Size: 9, Counted: true, Probe: true},
		{Time: api.MaxTime, Size: 65535, Counted: true, Eliciting: true, Told: 77}, {Time: api.MaxTime, Size: 1, Counted: true}, {Time: api.MaxTime},
	} {
		s.Number = int64(i)
		add(t, l, s)
		if s.Counted {
			flight += s.Size
		}
		if v := l.View(); v.Flight != flight || v.Next != s.Number+1 {
			t.Errorf("P13.3: behind %+v View is %+v, want Flight %d, Next %d", s, v, flight, s.Number+1)
		}
	}
	tells(t, "P13.3: what is Counted is kept", slices.Collect(l.Kept()), 0, 1, 2, 3, 6, 7, 8)
}

// sentAt50 is one of which 5, the first, was sent at 50.
func sentAt50(t *testing.T, kind func(number, time int64) api.Sent) *Ledger {
	l := made(t, 5)
	add(t, l, kind(5, 50))
	return l
}

func TestAddRefuses(t *testing.T) {
	for _, c := range []struct {
		say  string
		s    api.Sent
		want api.Errno
	}{
		{"the number that was sent last", asking(5, 50), api.ErrLedgerOrder},
		{"a number too low", asking(4, 50), api.ErrLedgerOrder},
		{"a number one too high", asking(7, 50), api.ErrLedgerOrder},
		{"number 0", asking(0, 50), api.ErrLedgerOrder},
		{"a number below 0", bare(-1, 50), api.ErrLedgerOrder},
		{"the least number", bare(math.MinInt64, 50), api.ErrLedgerOrder},
		{"the greatest number", padded(math.MaxInt64, 50), api.ErrLedgerOrder},
		{"a wrong number ahead of a wrong Time", asking(7, -1), api.ErrLedgerOrder},
		{"a wrong number ahead of a wrong Size", api.Sent{Number: 5, Time: 50, Size: -1}, api.ErrLedgerOrder},
		{"a wrong number ahead of what isn't Counted", api.Sent{Number: 5, Time: 50, Eliciting: true}, api.ErrLedgerOrder},
		{"a Time below 0", asking(6, -1), api.ErrArg},
		{"the least Time", bare(6, math.MinInt64), api.ErrArg},
		{"a Time above MaxTime", asking(6, api.MaxTime+1), api.ErrArg},
		{"the greatest Time", bare(6, math.MaxInt64), api.ErrArg},
		{"a Size below 0", api.Sent{Number: 6, Time: 50, Size: -1, Counted: true}, api.ErrArg},
		{"the least Size", api.Sent{Number: 6, Time: 50, Size: math.MinInt64}, api.ErrArg},
		{"a Size above 65535", api.Sent{Number: 6, Time: 50, Size: 65536, Counted: true, Eliciting: true}, api.ErrArg},
		{"the greatest Size", api.Sent{Number: 6, Time: 50, Size: math.MaxInt64}, api.ErrArg},
		{"Eliciting and not Counted", api.Sent{Number: 6, Time: 50, Size: 100, Eliciting: true}, api.ErrArg},
		{"a wrong Size ahead of a Time that falls", api.Sent{Number: 6, Time: 49, Size: 65536, Counted: true}, api.ErrArg},
		{"what isn't Counted ahead of a Time that falls", api.Sent{Number: 6, Time: 49, Eliciting: true}, api.ErrArg},
		{"a Time that falls by one", asking(6, 49), api.ErrLedgerOrder},
		{"a Time that falls by one, bare", bare(6, 49), api.ErrLedgerOrder},
		{"a Time that falls to 0", padded(6, 0), api.ErrLedgerOrder},
	} {
		for _, kind := range []func(number, time int64) api.Sent{asking, padded, bare} {
			l := sentAt50(t, kind)
			refuses(t, c.say, l, c.s, c.want)
			add(t, l, asking(6, 50))
			l.Drop()
			refuses(t, "not open: "+c.say, l, c.s, api.ErrOver)
		}
	}
}

// The Time that counts is that of the last one, whatever it is, and not of one that was refused.
func TestTimesRise(t *testing.T) {
	l := made(t, 0)
	add(t, l, asking(0, 10), bare(1, 60))
	refuses(t, "below a bare one's Time", l, asking(2, 59), api.ErrLedgerOrder)
	refuses(t, "a far Time with a wrong Size", l, api.Sent{Number: 2, Time: 5000, Size: -1}, api.ErrArg)
	refuses(t, "a far Time with a wrong number", l, asking(3, 5000), api.ErrLedgerOrder)
	add(t, l, asking(2, 60), padded(3, 61))
	refuses(t, "below a padded one's Time", l, asking(4, 60), api.ErrLedgerOrder)
	ack(t, l, 0, 3)
	refuses(t, "below the Time of one that is kept no longer", l, asking(4, 60), api.ErrLedgerOrder)
	add(t, l, asking(4, 61), asking(5, api.MaxTime))
	refuses(t, "below MaxTime", l, bare(6, api.MaxTime-1), api.ErrLedgerOrder)
	add(t, l, bare(6, api.MaxTime))
}

func TestViewAtEachStep(t *testing.T) {
	l := made(t, 3)
	step := func(say string, next, largest, last, flight int64, kept, waiting int) {
		t.Helper()
		views(t, "P13.7: "+say, l, api.Space{Open: true, Next: next, Largest: largest, Last: last, Loss: -1, Flight: flight, Kept: kept, Waiting: waiting})
	}
	step("nothing", 3, -1, -1, 0, 0, 0)
	add(t, l, bare(3, 0))
	step("a bare one", 4, -1, -1, 0, 0, 0)
	add(t, l, padded(4, 5))
	step("a padded one", 5, -1, -1, 30, 1, 0)
	add(t, l, asking(5, 6))
	step("one that asks", 6, -1, 6, 130, 2, 1)
	add(t, l, padded(6, 7))
	step("a padded one behind it", 7, -1, 6, 160, 3, 1)
	add(t, l, bare(7, 8))
	step("a bare one behind it", 8, -1, 6, 160, 3, 1)
	add(t, l, asking(8, 9), asking(9, 9), asking(10, 12), padded(11, 12))
	step("four more", 12, -1, 12, 490, 7, 4)
	ack(t, l, 7, 7)
	step("a bare one is acknowledged", 12, 7, 12, 490, 7, 4)
	ack(t, l, 10, 10)
	step("the last that asks is acknowledged", 12, 10, 12, 390, 6, 3)
	ack(t, l, 4, 5)
	step("lower ones are acknowledged", 12, 10, 12, 260, 4, 2)
	l.Lose(6, 8)
	step("two are lost", 12, 10, 12, 130, 2, 1)
	ack(t, l, 8, 8)
	step("what was lost is acknowledged", 12, 10, 12, 130, 2, 1)
	l.Lose(9)
	step("the last that waits is lost", 12, 10, 12, 30, 1, 0)
	l.Drop()
	views(t, "P13.7: dropped", l, api.Space{Next: 12, Largest: 10, Last: 12, Loss: -1})
}

// Two know nothing of one another (R4).
func TestTwoInTurns(t *testing.T) {
	play := func(l *Ledger, i int64) []any {
		kind := []func(number, time int64) api.Sent{asking, bare, asking, padded}[i%4]
		gone, err := l.Add(kind(20+i, 10*i))
		acked, ackErr := l.Ack(api.Run{Lo: 20 + i*i%(i+1), Hi: 20 + i*i%(i+1)})
		return []any{gone, err, acked, ackErr, l.Lose(20+i/3, 20+i/2), look(l)}
	}
	other := func(l *Ledger, i int64) {
		l.Add(asking(i, 5000+i))
		l.Ack(api.Run{Lo: i / 2, Hi: i / 2})
		l.Lose(20+i, i/5)
		if i == 40 {
			l.Drop()
		}
	}
	alone, a, b := made(t, 20), made(t, 20), made(t, 0)
	for i := int64(0); i < 60; i++ {
		want := play(alone, i)
		other(b, i)
		if got := play(a, i); !reflect.DeepEqual(got, want) {
			t.Fatalf("R4: step %d: %+v, want %+v", i, got, want)
		}
	}
}
