package loss

import (
	"math"
	"reflect"
	"testing"

	"portage/api"
)

// noSpaces are numbers of spaces that are none.
var noSpaces = []int{-1, 3, 4, math.MinInt, math.MaxInt}

// nexts fails if Next answers otherwise.
func nexts(t *testing.T, say string, l *Loss, space int, want int64, wantErr api.Errno) {
	t.Helper()
	ahead := look(l)
	for range 2 {
		if got, err := l.Next(space); got != want || err != wantErr {
			t.Errorf("%s: Next(%d) = %d, %d, want %d, %d", say, space, got, err, want, wantErr)
		}
	}
	same(t, say+": Next", l, ahead)
}

// refusesSent fails if Sent answers otherwise than by that error, or changes something.
func refusesSent(t *testing.T, say string, l *Loss, now int64, space int, s api.Sent, want api.Errno) {
	t.Helper()
	ahead := look(l)
	if o, err := l.Sent(now, space, s); err != want || !reflect.DeepEqual(o, api.Outcome{}) {
		t.Errorf("Errors: %s: Sent(%d, %+v) = %+v, %d, want nothing and %d", say, space, s, o, err, want)
	}
	same(t, "Errors: Sent, "+say, l, ahead)
}

func TestNext(t *testing.T) {
	c := plain()
	c.First = [3]int64{7, 0, api.MaxNumber - 1}
	l := made(t, c, api.Server)
	for space, first := range c.First {
		nexts(t, "P14.1: nothing is sent", l, space, first, api.OK)
	}
	send(t, l, 5, api.Initial, asking(1), bare(), padded(1))
	nexts(t, "P14.1: three are sent", l, api.Initial, 10, api.OK)
	nexts(t, "P14.1: in another space", l, api.Handshake, 0, api.OK)
	send(t, l, 5, api.App, asking(1))
	nexts(t, "P14.1: the last one", l, api.App, api.MaxNumber, api.OK)
	send(t, l, 5, api.App, asking(1))
	nexts(t, "Errors: none is left", l, api.App, 0, api.ErrLedgerLast)
	l.Drop(5, api.App)
	nexts(t, "Errors: a space that was dropped", l, api.App, 0, api.ErrOver)
	nexts(t, "P14.1: another space", l, api.Initial, 10, api.OK)
	for _, space := range noSpaces {
		nexts(t, "Errors: a space that is none", l, space, 0, api.ErrArg)
	}
}

func TestSentRefuses(t *testing.T) {
	c := plain()
	c.First[api.App] = api.MaxNumber
	l := made(t, c, api.Client)
	send(t, l, 5, api.App, asking(1))
	l.Drop(5, api.Handshake)
	wrong := []api.Sent{
		{Size: -1, Counted: true}, {Size: 65536, Counted: true}, {Size: math.MinInt64}, {Size: math.MaxInt64}, {Size: -1}, {Size: 65536},
		{Size: 1, Eliciting: true},
	}
	for _, s := range wrong {
		refusesSent(t, "what may not be", l, 900, api.Initial, s, api.ErrArg)
		refusesSent(t, "what may not be, in a space that was dropped", l, 900, api.Handshake, s, api.ErrOver)
		refusesSent(t, "what may not be, where no number is left", l, 900, api.App, s, api.ErrLedgerLast)
	}
	for _, space := range noSpaces {
		refusesSent(t, "a space that is none", l, 900, space, asking(1), api.ErrArg)
	}
	refusesSent(t, "a space that was dropped", l, 900, api.Handshake, asking(1), api.ErrOver)
	refusesSent(t, "where no number is left", l, 900, api.App, asking(1), api.ErrLedgerLast)
	refusesSent(t, "a bare one where no number is left", l, 900, api.App, bare(), api.ErrLedgerLast)
}

// Number and Time are the space's and the clock's, whatever the packet has there.
func TestSentNumberAndTime(t *testing.T) {
	for _, x := range []int64{0, 5, -1, 700, math.MinInt64, math.MaxInt64} {
		c := plain()
		c.First[api.Handshake] = 40
		l := made(t, c, api.Server)
		for _, s := range []api.Sent{asking(10), padded(20)} {
			s.Number, s.Time, s.Probe, s.Told = x, x, true, 9
			send(t, l, 30, api.Handshake, s)
		}
		o := ack(t, l, 31, api.Handshake, 40, 41)
		want := []api.Sent{
			{Number: 40, Time: 30, Size: 10, Eliciting: true, Counted: true, Probe: true, Told: 9},
			{Number: 41, Time: 30, Size: 20, Counted: true, Probe: true, Told: 9},
		}
		if !reflect.DeepEqual(o.Acked, want) {
			t.Errorf("P14.2: kept are %+v, want %+v", o.Acked, want)
		}
	}
}

func TestSentTells(t *testing.T) {
	l := server(t)
	send(t, l, 5, api.Handshake, asking(1200))
	events(t, "P14.2: an Eliciting one", l,
		api.Event{Kind: api.EvSent, Time: 5, Space: api.Handshake, Size: 1200},
		api.Event{Kind: api.EvTimer, Time: 5, Space: api.Handshake, A: 300005, B: 2})
	send(t, l, 9, api.Handshake, padded(65535))
	events(t, "P14.2: one that is Counted alone", l, api.Event{Kind: api.EvSent, Time: 9, Space: api.Handshake, Number: 1, Size: 65535})
	windows(t, "P14.2: both", l, 12000, api.MaxNumber, 66735, -1)
	send(t, l, 9, api.Handshake, asking(0))
	events(t, "P14.2: one of Size 0", l,
		api.Event{Kind: api.EvSent, Time: 9, Space: api.Handshake, Number: 2},
		api.Event{Kind: api.EvTimer, Time: 9, Space: api.Handshake, A: 300009, B: 2})
	windows(t, "P14.2: one of Size 0", l, 12000, api.MaxNumber, 66735, -1)
	send(t, l, 10, api.Initial, asking(7))
	events(t, "P14.2: a space whose probe is later", l, api.Event{Kind: api.EvSent, Time: 10, Size: 7})
	windows(t, "P14.2: of all spaces", l, 12000, api.MaxNumber, 66742, -1)
}

// Of one that isn't Counted nothing is told, and the timer isn't set, even if the clock has moved.
func TestSentBare(t *testing.T) {
	l := made(t, plain(), api.Client)
	l.Keys(0)
	l.Events()
	for i, s := range []api.Sent{bare(), {}, {Size: 65535}} {
		ahead := look(l)
		send(t, l, 1000+int64(i), api.Initial, s)
		ahead.own.clock = 1000 + int64(i)
		ahead.spaces[api.Initial].Next++
		same(t, "P14.2: one that isn't Counted", l, ahead)
	}
	waits(t, "P14.2: one that isn't Counted", l, asks, api.Handshake, 300000)
	send(t, l, 1002, api.Initial, padded(1))
	waits(t, "P14.2: one that is", l, asks, api.Handshake, 301002)
}

func TestSentForgets(t *testing.T) {
	l := server(t)
	send(t, l, 0, api.App, asking(1), bare())
	for i := range int64(api.MaxSent - 1) {
		send(t, l, 10, api.App, padded(i))
	}
	flight := int64(1 + 254*255/2)
	windows(t, "P14.2: MaxSent are kept", l, 12000, api.MaxNumber, flight, -1)
	l.Events()
	for i, c := range []struct{ number, size int64 }{{0, 1}, {2, 0}, {3, 1}, {4, 2}} {
		number := int64(api.MaxSent + 1 + i)
		o, err := l.Sent(20+int64(i), api.App, asking(1000))
		if err != api.OK || o.Acked != nil || len(o.Lost) != 1 || o.Lost[0].Size != c.size {
			t.Errorf("P14.2: one more than MaxSent: %+v, %d", o, err)
		}
		tells(t, "P14.2: one more than MaxSent", o.Lost, c.number)
		flight += 1000 - c.size
		windows(t, "P14.2: one more than MaxSent", l, 12000, api.MaxNumber, flight, -1)
		events(t, "P14.2: one more than MaxSent", l,
			api.Event{Kind: api.EvSent, Time: 20 + int64(i), Space: api.App, Number: number, Size: 1000},
			api.Event{Kind: api.EvForgotten, Time: 20 + int64(i), Space: api.App, Number: c.number})
	}
	if v := l.View().Spaces[api.App]; v.Kept != api.MaxSent || v.Flight != flight {
		t.Errorf("P14.2: kept are %d, of %d bytes, want %d", v.Kept, v.Flight, flight)
	}
	send(t, l, 30, api.App, bare())
	send(t, l, 30, api.Initial, asking(1))
	send(t, l, 30, api.Handshake, asking(1))
}

// The timer is set behind that: it may hang on what was forgotten.
func TestSentForgetsTheLastThatAsks(t *testing.T) {
	l := server(t)
	send(t, l, 0, api.Initial, asking(1))
	for range api.MaxSent - 1 {
		send(t, l, 10, api.Initial, padded(1))
	}
	waits(t, "P14.2: MaxSent are kept", l, asks, api.Initial, 300000)
	l.Events()
	l.Sent(20, api.Initial, padded(1))
	idle(t, "P14.2: none that asks is kept", l)
	events(t, "P14.2: none that asks is kept", l,
		api.Event{Kind: api.EvSent, Time: 20, Number: api.MaxSent, Size: 1},
		api.Event{Kind: api.EvForgotten, Time: 20},
		api.Event{Kind: api.EvTimer, Time: 20, A: api.Never})
}

// LOSS is what it was found to be, though the packet is forgotten that it is of: nothing is lost then.
func TestForgottenLeavesLoss(t *testing.T) {
	l := server(t)
	send(t, l, 0, api.Initial, asking(1), padded(1))
	ack(t, l, 10, api.Initial, 1, 1)
	for range api.MaxSent {
		l.Sent(20, api.Initial, padded(1))
	}
	waits(t, "P14.2: what is forgotten leaves LOSS", l, loses, api.Initial, 112500)
	if x := l.Timeout(112500); x.Kind != loses || x.Lost != nil {
		t.Errorf("P14.7: %+v, want a loss timer of nothing", x)
	}
	idle(t, "P14.7: nothing is left to be lost", l)
}

func TestMay(t *testing.T) {
	l := server(t)
	may := func(say string, space int, size int64, want bool) {
		t.Helper()
		ahead := look(l)
		if got := l.May(space, size); got != want {
			t.Errorf("P14.3: %s: May(%d, %d) = %t, want %t", say, space, size, got, want)
		}
		same(t, "P14.3: May", l, ahead)
	}
	for space := range api.Spaces {
		may("a new one", space, 12000, true)
		may("a new one", space, 12001, false)
		may("a new one", space, 0, true)
		may("a size below 0", space, -5, true)
		may("a size below 0", space, math.MinInt64, true)
		may("a size above all", space, math.MaxInt64, false)
	}
	for _, space := range noSpaces {
		may("a space that is none", space, 0, false)
	}
	send(t, l, 0, api.Initial, asking(1000))
	send(t, l, 0, api.App, padded(2000))
	send(t, l, 0, api.App, bare())
	for space := range api.Spaces {
		may("3000 are under way", space, 9000, true)
		may("3000 are under way", space, 9001, false)
	}
	l.Drop(0, api.Initial)
	may("a space that was dropped", api.Initial, 0, false)
	may("a space that was dropped leaves room", api.Handshake, 10000, true)
	may("a space that was dropped leaves room", api.Handshake, 10001, false)
	for range 251 {
		send(t, l, 0, api.Handshake, asking(0))
	}
	may("MaxSent - 5 are kept", api.Handshake, 10000, true)
	send(t, l, 0, api.Handshake, bare())
	may("MaxSent - 5 are kept, and a bare one was sent", api.Handshake, 10000, true)
	send(t, l, 0, api.Handshake, padded(0))
	may("MaxSent - 4 are kept", api.Handshake, 0, false)
	may("MaxSent - 4 are kept in another space", api.App, 10000, true)
	send(t, l, 0, api.Handshake, padded(0))
	may("MaxSent - 3 are kept", api.Handshake, 0, false)
	ack(t, l, 1, api.Handshake, 0, 1)
	may("MaxSent - 5 are kept again", api.Handshake, 10000, true)
	send(t, l, 1, api.App, asking(10000))
	may("the window is full", api.Handshake, 0, true)
	may("the window is full", api.Handshake, 1, false)
	send(t, l, 1, api.App, asking(1))
	may("the window is more than full", api.Handshake, 0, false)
}

// LIMITED is true at first; while it is, what is acknowledged raises no window.
func TestLimited(t *testing.T) {
	for _, curved := range []bool{false, true} {
		c := plain()
		c.Cubic = curved
		l := made(t, c, api.Server)
		for range 8 {
			send(t, l, 0, api.App, asking(1000))
		}
		at := func(number int64, say string, size int64) {
			t.Helper()
			ack(t, l, 10+number, api.App, number, number)
			windows(t, "P14.3: "+say, l, size, api.MaxNumber, 7000-number*1000, -1)
		}
		at(0, "nothing is told", 12000)
		l.Limited(false)
		at(1, "not limited", 13000)
		at(2, "not limited still", 14000)
		l.Limited(true)
		at(3, "limited", 14000)
		l.Limited(true)
		at(4, "limited still", 14000)
		l.Limited(false)
		at(5, "not limited again", 15000)
		ahead := look(l)
		ahead.own.limited = true
		l.Limited(true)
		same(t, "P14.3: Limited", l, ahead)
	}
}
