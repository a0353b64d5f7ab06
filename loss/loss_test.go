package loss

import (
	"math"
	"reflect"
	"slices"
	"testing"

	"portage/api"
	"portage/cubic"
	"portage/reno"
	"portage/rtt"
)

const (
	none  = api.ExpiryNone
	loses = api.ExpiryLoss
	asks  = api.ExpiryProbe
)

// plain is the configuration of the chapter's examples: ahead of a sample Base is 300000, and what is sent longer than 112500 ago is lost.
func plain() api.Config {
	return api.Config{MTU: 1200, InitialRTT: 100000, Granularity: 1000, MaxPTO: 3000000}
}

// made is a new one.
func made(t *testing.T, c api.Config, role int) *Loss {
	t.Helper()
	l, err := New(c, role)
	if l == nil || err != api.OK {
		t.Fatalf("Errors: New(%+v, %d) = %v, %d, want one and OK", c, role, l, err)
	}
	return l
}

// server is a server of the plain configuration: nothing waits as long as nothing is sent.
func server(t *testing.T) *Loss {
	t.Helper()
	return made(t, plain(), api.Server)
}

// confirmed is a server whose handshake is confirmed, so that probes go for App, too.
func confirmed(t *testing.T) *Loss {
	t.Helper()
	l := server(t)
	l.Confirm(0)
	l.Events()
	return l
}

// asking is a packet that wants an acknowledgement.
func asking(size int64) api.Sent {
	return api.Sent{Size: size, Eliciting: true, Counted: true, Told: -1}
}

// padded is one that is Counted for its padding alone: its acknowledgement is no sample.
func padded(size int64) api.Sent {
	return api.Sent{Size: size, Counted: true, Told: -1}
}

// bare is one that isn't Counted.
func bare() api.Sent { return api.Sent{Size: 40, Told: -1} }

// send sends packets for which none is forgotten.
func send(t *testing.T, l *Loss, now int64, space int, packets ...api.Sent) {
	t.Helper()
	for _, s := range packets {
		if o, err := l.Sent(now, space, s); err != api.OK || len(o.Acked) != 0 || len(o.Lost) != 0 {
			t.Fatalf("P14.2: Sent(%d, %d, %+v) = %+v, %d, want nothing and OK", now, space, s, o, err)
		}
	}
}

// frame is an acknowledgement of runs, each by its two ends.
func frame(ends ...int64) api.Frame {
	f := api.Frame{Kind: api.KAck}
	for i := 0; i < len(ends); i += 2 {
		f.Runs = append(f.Runs, api.Run{Lo: ends[i], Hi: ends[i+1]})
	}
	return f
}

// ack acknowledges runs, each by its two ends.
func ack(t *testing.T, l *Loss, now int64, space int, ends ...int64) api.Outcome {
	t.Helper()
	return take(t, l, now, space, frame(ends...))
}

// take hands a frame in that is one.
func take(t *testing.T, l *Loss, now int64, space int, f api.Frame) api.Outcome {
	t.Helper()
	o, err := l.Ack(now, space, f)
	if err != api.OK {
		t.Fatalf("P14.4: Ack(%d, %d, %+v): %d, want OK", now, space, f, err)
	}
	return o
}

// numbers are those of packets.
func numbers(packets []api.Sent) []int64 {
	var l []int64
	for _, s := range packets {
		l = append(l, s.Number)
	}
	return l
}

// tells fails if packets have other numbers.
func tells(t *testing.T, say string, got []api.Sent, want ...int64) {
	t.Helper()
	if !slices.Equal(numbers(got), want) {
		t.Errorf("%s: packets %d, want %d", say, numbers(got), want)
	}
}

// waits fails if the timer is another one.
func waits(t *testing.T, say string, l *Loss, kind, in int, deadline int64) {
	t.Helper()
	if v := l.View(); v.Kind != kind || v.In != in || v.Deadline != deadline || l.Deadline() != deadline {
		t.Errorf("%s: the timer is %d in %d at %d (%d), want %d in %d at %d", say, v.Kind, v.In, v.Deadline, l.Deadline(), kind, in, deadline)
	}
}

// idle fails if there is a timer.
func idle(t *testing.T, say string, l *Loss) {
	t.Helper()
	waits(t, say, l, none, 0, api.Never)
}

// windows fails if the window is another one.
func windows(t *testing.T, say string, l *Loss, size, threshold, flight, began int64) {
	t.Helper()
	if got, want := l.View().Window, (api.Window{Size: size, Threshold: threshold, Flight: flight, Began: began}); got != want {
		t.Errorf("%s: the window is %+v, want %+v", say, got, want)
	}
}

// events fails if others are told than these.
func events(t *testing.T, say string, l *Loss, want ...api.Event) {
	t.Helper()
	if got := l.Events(); !slices.Equal(got, want) {
		t.Errorf("%s: events %+v, want %+v", say, got, want)
	}
}

// A state is all that there is of a Loss.
type state struct {
	own    Loss // but what hangs on it
	est    rtt.Est
	plain  reno.Ctl
	curved cubic.Ctl
	spaces [api.Spaces]api.Space
	kept   [api.Spaces][]api.Sent
	events []api.Event
	period int64
}

// look takes it down, and asks for no events.
func look(l *Loss) state {
	s := state{own: *l, est: *l.est, events: slices.Clone(l.events), period: l.Period()}
	switch c := l.ctl.(type) {
	case *reno.Ctl:
		s.plain = *c
	case *cubic.Ctl:
		s.curved = *c
	}
	for i := range l.spaces {
		s.spaces[i] = l.spaces[i].View()
		s.kept[i] = slices.Collect(l.spaces[i].Kept())
		s.own.spaces[i].Ledger = nil
	}
	s.own.est, s.own.ctl, s.own.events = nil, nil, nil
	return s
}

// same fails if one isn't as it was.
func same(t *testing.T, say string, l *Loss, want state) {
	t.Helper()
	if got := look(l); !reflect.DeepEqual(got, want) {
		t.Errorf("%s: it is %+v, and was %+v", say, got, want)
	}
}

func TestExamples(t *testing.T) {
	l := made(t, plain(), api.Client)
	idle(t, "P14.7: a new one", l)
	l.Keys(0)
	waits(t, "P14.6: Keys", l, asks, api.Handshake, 300000)
	send(t, l, 10, api.Initial, asking(1200))
	send(t, l, 20, api.Initial, asking(1200))
	waits(t, "P14.6: two are sent", l, asks, api.Initial, 300020)
	windows(t, "P14.2: two are sent", l, 12000, api.MaxNumber, 2400, -1)
	if x := l.Timeout(300019); !reflect.DeepEqual(x, api.Expiry{}) {
		t.Errorf("P14.7: ahead of the deadline: %+v", x)
	}
	waits(t, "P14.7: ahead of the deadline", l, asks, api.Initial, 300020)
	x := l.Timeout(300020)
	if x.Kind != asks || x.Space != api.Initial || x.Probes != 2 || x.Lost != nil {
		t.Errorf("P14.7: at the deadline: %+v", x)
	}
	tells(t, "P14.7: Again of Initial", x.Again[api.Initial], 0, 1)
	waits(t, "P14.7: behind the expiry", l, asks, api.Initial, 900020)
	send(t, l, 300020, api.Initial, asking(1200))
	waits(t, "P14.6: a third one is sent", l, asks, api.Initial, 900020)
	windows(t, "P14.2: a third one is sent", l, 12000, api.MaxNumber, 3600, -1)
	o := ack(t, l, 350020, api.Initial, 2, 2)
	tells(t, "P14.4: acknowledged", o.Acked, 2)
	tells(t, "P14.5: lost", o.Lost, 0, 1)
	waits(t, "P14.6: nothing is under way", l, asks, api.Handshake, 650020)
	windows(t, "P14.10: behind the losses", l, 6000, 6000, 0, 350020)
	if v := l.View(); v.RTT.Smooth != 50000 || v.RTT.Latest != 50000 || v.Count != 1 {
		t.Errorf("P14.10: View() = %+v", v)
	}
	refusesAck(t, "one that was never sent", l, 350030, api.Initial, frame(3, 3), api.ErrLedgerNever)
	l.Confirm(350030)
	idle(t, "P14.8: Confirm", l)
}

func TestNewTakes(t *testing.T) {
	for _, turn := range []func(c *api.Config){
		func(c *api.Config) { c.MTU = 1200 },
		func(c *api.Config) { c.MTU = 9000 },
		func(c *api.Config) { c.InitialRTT = 1 },
		func(c *api.Config) { c.InitialRTT = 60000000 },
		func(c *api.Config) { c.Granularity = 1 },
		func(c *api.Config) { c.Granularity = 1000000 },
		func(c *api.Config) { c.MaxPTO = 1000 },
		func(c *api.Config) { c.Granularity, c.MaxPTO = 1000000, 1000000 },
		func(c *api.Config) { c.Granularity, c.MaxPTO = 1, 1 },
		func(c *api.Config) { c.MaxPTO = api.MaxSpan },
		func(c *api.Config) { c.First = [3]int64{api.MaxNumber, 0, 5} },
		func(c *api.Config) { c.First = [3]int64{0, api.MaxNumber, 0} },
		func(c *api.Config) { c.First = [3]int64{7, 0, api.MaxNumber} },
		// Nothing else is looked at.
		func(c *api.Config) {
			c.Params = api.Params{Idle: -1, Data: -1, StreamOwn: -1, StreamHis: -1, StreamUni: -1, Bidi: -1, Uni: -1, AckExp: -1, AckDelay: -1}
		},
		func(c *api.Config) { c.Capacity, c.Burst, c.Pace, c.Marks = -1, -1, true, true },
		func(c *api.Config) { c.ID, c.To = make([]byte, 21), make([]byte, 21) },
	} {
		for _, curved := range []bool{false, true} {
			for _, role := range []int{api.Client, api.Server} {
				c := plain()
				c.Cubic = curved
				turn(&c)
				l := made(t, c, role)
				idle(t, "P14.7: a new one", l)
				for space, first := range c.First {
					if n, err := l.Next(space); n != first || err != api.OK {
						t.Errorf("P14.1: New(%+v): Next(%d) = %d, %d, want %d", c, space, n, err, first)
					}
				}
			}
		}
	}
}

func TestNewRefuses(t *testing.T) {
	turns := []func(c *api.Config){
		func(c *api.Config) { c.MTU = 1199 }, func(c *api.Config) { c.MTU = 9001 },
		func(c *api.Config) { c.MTU = 0 }, func(c *api.Config) { c.MTU = math.MinInt }, func(c *api.Config) { c.MTU = math.MaxInt },
		func(c *api.Config) { c.InitialRTT = 0 }, func(c *api.Config) { c.InitialRTT = 60000001 },
		func(c *api.Config) { c.InitialRTT = math.MinInt64 }, func(c *api.Config) { c.InitialRTT = math.MaxInt64 },
		func(c *api.Config) { c.Granularity = 0 }, func(c *api.Config) { c.Granularity = 1000001 },
		func(c *api.Config) { c.Granularity = math.MinInt64 }, func(c *api.Config) { c.Granularity, c.MaxPTO = math.MaxInt64, math.MaxInt64 },
		func(c *api.Config) { c.MaxPTO = 999 }, func(c *api.Config) { c.MaxPTO = api.MaxSpan + 1 },
		func(c *api.Config) { c.MaxPTO = math.MinInt64 }, func(c *api.Config) { c.MaxPTO = math.MaxInt64 },
		func(c *api.Config) { c.Granularity, c.MaxPTO = 1, 0 },
	}
	for i := range api.Spaces {
		for _, first := range []int64{-1, api.MaxNumber + 1, math.MinInt64, math.MaxInt64} {
			turns = append(turns, func(c *api.Config) { c.First[i] = first })
		}
	}
	for _, turn := range turns {
		for _, curved := range []bool{false, true} {
			c := plain()
			c.Cubic = curved
			turn(&c)
			if l, err := New(c, api.Server); l != nil || err != api.ErrArg {
				t.Errorf("Errors: New(%+v) = %v, %d, want nil and ErrArg", c, l, err)
			}
		}
	}
	for _, role := range []int{-1, 2, 3, math.MinInt, math.MaxInt} {
		if l, err := New(plain(), role); l != nil || err != api.ErrArg {
			t.Errorf("Errors: New of the role %d = %v, %d, want nil and ErrArg", role, l, err)
		}
	}
}

func TestNewOne(t *testing.T) {
	for _, c := range []struct {
		mtu    int
		curved bool
		size   int64
	}{{1200, false, 12000}, {1200, true, 12000}, {1472, false, 14720}, {9000, true, 18000}, {9000, false, 18000}} {
		for _, role := range []int{api.Client, api.Server} {
			o := plain()
			o.MTU, o.Cubic, o.First = c.mtu, c.curved, [3]int64{1, 2, 3}
			l := made(t, o, role)
			want := api.Recovery{Deadline: api.Never, Window: api.Window{Size: c.size, Threshold: api.MaxNumber, Began: -1}}
			for i := range want.Spaces {
				want.Spaces[i] = api.Space{Open: true, Next: int64(i) + 1, Largest: -1, Last: -1, Loss: -1}
				want.Marks[i] = true
			}
			if got := l.View(); got != want {
				t.Errorf("P14.10: a new one: View() = %+v, want %+v", got, want)
			}
			events(t, "P14.10: a new one", l)
			if got := l.Period(); got != 300000 {
				t.Errorf("P14.10: a new one: Period() = %d, want 300000", got)
			}
		}
	}
}

// told are the calls that are told a time and answer no error, each with what it does to a Loss.
var told = []struct {
	name string
	call func(l *Loss, now int64)
}{
	{"Sent", func(l *Loss, now int64) { l.Sent(now, api.Initial, asking(1)) }},
	{"Sent of a bare one", func(l *Loss, now int64) { l.Sent(now, api.Initial, bare()) }},
	{"Ack", func(l *Loss, now int64) { l.Ack(now, api.App, frame(0, 0)) }},
	{"Ack of nothing", func(l *Loss, now int64) { l.Ack(now, api.App, frame()) }},
	{"Timeout", func(l *Loss, now int64) { l.Timeout(now) }},
	{"Drop", func(l *Loss, now int64) { l.Drop(now, api.Handshake) }},
	{"Keys", func(l *Loss, now int64) { l.Keys(now) }},
	{"Confirm", func(l *Loss, now int64) { l.Confirm(now) }},
	{"Blocked", func(l *Loss, now int64) { l.Blocked(now, true) }},
}

// clock tells a Loss's, by the packet that it sends next.
func clock(t *testing.T, l *Loss) int64 {
	t.Helper()
	send(t, l, 0, api.Initial, asking(1))
	at := l.View().Spaces[api.Initial].Last
	if l.clock != at {
		t.Errorf("R5: the clock is %d, and %d of the packet that is sent", l.clock, at)
	}
	return at
}

// The clock is the greatest time that was told, and at most MaxTime (R5).
func TestClock(t *testing.T) {
	for _, c := range told {
		for _, row := range []struct{ first, now, want int64 }{
			{0, 0, 0}, {0, 1, 1}, {50, 70, 70}, {50, 50, 50}, {50, 49, 50}, {50, -1, 50}, {50, math.MinInt64, 50}, {0, -1, 0},
			{50, api.MaxTime, api.MaxTime}, {50, api.MaxTime + 1, api.MaxTime}, {50, math.MaxInt64, api.MaxTime}, {api.MaxTime, 5, api.MaxTime},
		} {
			l := server(t)
			send(t, l, row.first, api.App, padded(1))
			c.call(l, row.now)
			if got := clock(t, l); got != row.want {
				t.Errorf("R5: %d, and then %s at %d: the clock is %d, want %d", row.first, c.name, row.now, got, row.want)
			}
		}
	}
}

// A call that answers an error moves no clock, nor does a Drop of nothing.
func TestClockStays(t *testing.T) {
	for _, c := range []struct {
		name string
		call func(l *Loss)
	}{
		{"Sent in no space", func(l *Loss) { l.Sent(900, 3, asking(1)) }},
		{"Sent of a wrong size", func(l *Loss) { l.Sent(900, api.Initial, asking(65536)) }},
		{"Sent in a space that was dropped", func(l *Loss) { l.Sent(900, api.Handshake, asking(1)) }},
		{"Sent behind the last number", func(l *Loss) { l.Sent(900, api.App, asking(1)) }},
		{"Ack in no space", func(l *Loss) { l.Ack(900, -1, frame(0, 0)) }},
		{"Ack of another kind", func(l *Loss) { l.Ack(900, api.Initial, api.Frame{Kind: api.KPing}) }},
		{"Ack in a space that was dropped", func(l *Loss) { l.Ack(900, api.Handshake, frame()) }},
		{"Ack of what was never sent", func(l *Loss) { l.Ack(900, api.Initial, frame(1, 1)) }},
		{"Ack of a run that is none", func(l *Loss) { l.Ack(900, api.Initial, frame(1, 0)) }},
		{"Drop of no space", func(l *Loss) { l.Drop(900, 3) }},
		{"Drop of a space that was dropped", func(l *Loss) { l.Drop(900, api.Handshake) }},
		{"Limited", func(l *Loss) { l.Limited(false) }},
		{"Peer", func(l *Loss) { l.Peer(api.Params{AckDelay: 900}) }},
		{"the calls that tell", func(l *Loss) {
			l.Next(0)
			l.May(0, 0)
			l.Period()
			l.View()
			l.Deadline()
			l.Events()
		}},
	} {
		o := plain()
		o.First[api.App] = api.MaxNumber
		l := made(t, o, api.Server)
		send(t, l, 50, api.App, asking(1))
		send(t, l, 50, api.Initial, asking(1))
		l.Drop(50, api.Handshake)
		c.call(l)
		if got := clock(t, l); got != 50 {
			t.Errorf("Types: %s: the clock is %d, want 50", c.name, got)
		}
	}
}

// Deadlines are not cut at MaxTime, and what lies beyond it is never due (R5).
func TestBeyondTheLastTime(t *testing.T) {
	l := server(t)
	send(t, l, api.MaxTime-5, api.Initial, asking(1), padded(1))
	waits(t, "R5: a probe beyond the last time", l, asks, api.Initial, api.MaxTime-5+300000)
	ack(t, l, api.MaxTime-4, api.Initial, 1, 1)
	waits(t, "R5: a loss beyond the last time", l, loses, api.Initial, api.MaxTime-5+112500)
	ahead := look(l)
	ahead.own.clock = api.MaxTime
	for _, now := range []int64{api.MaxTime, api.MaxTime + 200000, api.Never, math.MaxInt64} {
		if x := l.Timeout(now); !reflect.DeepEqual(x, api.Expiry{}) {
			t.Errorf("R5: Timeout(%d) = %+v, want nothing", now, x)
		}
		same(t, "R5: Timeout at the last time", l, ahead)
	}
	l = made(t, plain(), api.Client)
	l.Keys(math.MaxInt64)
	waits(t, "R5: a silent client at the last time", l, asks, api.Handshake, api.MaxTime+300000)
	l.Timeout(math.MaxInt64)
	waits(t, "R5: it is never due", l, asks, api.Handshake, api.MaxTime+300000)
}

// Two that are used in turns know nothing of one another (R4).
func TestTwoInTurns(t *testing.T) {
	c := plain()
	c.Cubic = true
	a, b := made(t, plain(), api.Client), made(t, c, api.Server)
	for i := range int64(6) {
		send(t, a, i*10, api.Initial, asking(1000))
		send(t, b, i*1000, api.App, asking(500))
	}
	b.Peer(api.Params{AckDelay: 77, AckExp: 1})
	b.Confirm(6000)
	a.Keys(60)
	ack(t, a, 100000, api.Initial, 1, 1)
	ack(t, b, 50000, api.App, 5, 5)
	windows(t, "R4: the first one", a, 12000, api.MaxNumber, 5000, -1)
	windows(t, "R4: the second one", b, 8400, 8400, 1000, 50000)
	waits(t, "R4: the first one", a, loses, api.Initial, 112488)
	waits(t, "R4: the second one", b, loses, api.App, 3000+50625)
	if x, y := a.Period(), b.Period(); x != 299970 || y != 45000+90000+77 {
		t.Errorf("R4: Period() = %d, %d", x, y)
	}
	a.Events()
	if n := len(b.Events()); n == 0 {
		t.Error("R4: the events of one were asked for, and the other's are gone")
	}
}
