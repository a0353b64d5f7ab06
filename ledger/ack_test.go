package ledger

import (
	"math"
	"slices"
	"testing"

	"portage/api"
)

// pairs are runs, by their ends.
func pairs(ends ...int64) []api.Run {
	var l []api.Run
	for i := 0; i < len(ends); i += 2 {
		l = append(l, api.Run{Lo: ends[i], Hi: ends[i+1]})
	}
	return l
}

// ack is what Ack answers of runs, by their ends.
func ack(t *testing.T, l *Ledger, ends ...int64) []api.Sent {
	t.Helper()
	packets, err := l.Ack(pairs(ends...)...)
	if err != api.OK {
		t.Errorf("P13.4: Ack(%d) = %+v, %d, want OK", ends, packets, err)
	}
	return packets
}

// denies fails if Ack answers otherwise than by that error, or changes something.
func denies(t *testing.T, say string, l *Ledger, want api.Errno, r ...api.Run) {
	t.Helper()
	ahead := look(l)
	if packets, err := l.Ack(r...); len(packets) != 0 || err != want {
		t.Errorf("Errors: %s: Ack(%d) = %+v, %d, want nothing and %d", say, r, packets, err, want)
	}
	same(t, "Errors: Ack, "+say, l, ahead)
}

// told fails if Told answers otherwise.
func told(t *testing.T, say string, l *Ledger, lo, hi int64, want bool) {
	t.Helper()
	if got := l.Told(lo, hi); got != want {
		t.Errorf("%s: Told(%d, %d) = %v, want %v", say, lo, hi, got, want)
	}
}

// toldJust fails if of the numbers ahead of end others are told than those of the runs.
func toldJust(t *testing.T, say string, l *Ledger, end int64, r []api.Run) {
	t.Helper()
	for x := int64(-3); x < end; x++ {
		in := slices.ContainsFunc(r, func(r api.Run) bool { return r.Lo <= x && x <= r.Hi })
		told(t, say, l, x, x, in)
	}
}

// ten is one of which 10 to 19 were sent, of which 12 and 16 are bare, 17 is padded.
func ten(t *testing.T) *Ledger {
	t.Helper()
	l := made(t, 10)
	for x := int64(10); x < 20; x++ {
		switch x {
		case 12, 16:
			add(t, l, bare(x, x))
		case 17:
			add(t, l, padded(x, x))
		default:
			add(t, l, asking(x, x))
		}
	}
	return l
}

func TestAck(t *testing.T) {
	for _, c := range []struct {
		say     string
		runs    []api.Run
		want    []int64
		largest int64
	}{
		{"no run", nil, nil, -1},
		{"one number", pairs(14, 14), []int64{14}, 14},
		{"the first number", pairs(10, 10), []int64{10}, 10},
		{"the last number", pairs(19, 19), []int64{19}, 19},
		{"all", pairs(10, 19), []int64{10, 11, 13, 14, 15, 17, 18, 19}, 19},
		{"a bare one", pairs(12, 12), nil, 12},
		{"a padded one", pairs(17, 17), []int64{17}, 17},
		{"a bare one in the midst", pairs(11, 13), []int64{11, 13}, 13},
		{"runs in falling order", pairs(18, 19, 14, 15, 10, 11), []int64{10, 11, 14, 15, 18, 19}, 19},
		{"runs in rising order", pairs(10, 10, 13, 13, 19, 19), []int64{10, 13, 19}, 19},
		{"runs in no order", pairs(13, 14, 18, 18, 10, 10, 17, 17), []int64{10, 13, 14, 17, 18}, 18},
		{"runs that touch", pairs(15, 16, 13, 14), []int64{13, 14, 15}, 16},
		{"runs that overlap", pairs(13, 17, 11, 14, 14, 15), []int64{11, 13, 14, 15, 17}, 17},
		{"a run twice", pairs(14, 15, 14, 15), []int64{14, 15}, 15},
		{"a run within another", pairs(14, 14, 10, 19, 13, 13), []int64{10, 11, 13, 14, 15, 17, 18, 19}, 19},
		{"the greatest in the midst", pairs(13, 13, 18, 18, 15, 15), []int64{13, 15, 18}, 18},
	} {
		l := ten(t)
		packets, err := l.Ack(c.runs...)
		if err != api.OK {
			t.Errorf("P13.4: %s: Ack(%d) answers %d", c.say, c.runs, err)
		}
		tells(t, "P13.4: "+c.say, packets, c.want...)
		toldJust(t, "P13.4: "+c.say, l, 25, c.runs)
		if v := l.View(); v.Largest != c.largest || v.Kept != 8-len(c.want) {
			t.Errorf("P13.4: %s: View() = %+v, want Largest %d, Kept %d", c.say, v, c.largest, 8-len(c.want))
		}
		rest := slices.DeleteFunc([]int64{10, 11, 13, 14, 15, 17, 18, 19}, func(x int64) bool { return slices.Contains(c.want, x) })
		tells(t, "P13.4: kept still, "+c.say, slices.Collect(l.Kept()), rest...)
		packets, err = l.Ack(c.runs...)
		if tells(t, "P13.4: again, "+c.say, packets); err != api.OK {
			t.Errorf("P13.4: again, %s: Ack(%d) answers %d", c.say, c.runs, err)
		}
	}
}

func TestAckRefuses(t *testing.T) {
	for _, c := range []struct {
		say  string
		runs []api.Run
		want api.Errno
	}{
		{"Lo above Hi by one", pairs(14, 13), api.ErrArg},
		{"Lo above Hi, both sent", pairs(19, 10), api.ErrArg},
		{"Lo below 0", pairs(-1, 14), api.ErrArg},
		{"both below 0", pairs(-5, -1), api.ErrArg},
		{"the least", pairs(math.MinInt64, math.MinInt64), api.ErrArg},
		{"all", pairs(math.MinInt64, math.MaxInt64), api.ErrArg},
		{"Lo above Hi and not sent", pairs(30, 20), api.ErrArg},
		{"Lo above Hi and below FIRST", pairs(5, 4), api.ErrArg},
		{"Lo below 0 and not sent", pairs(-1, 50), api.ErrArg},
		{"one number below FIRST", pairs(9, 12), api.ErrLedgerNever},
		{"number 0", pairs(0, 0), api.ErrLedgerNever},
		{"0 up to FIRST", pairs(0, 10), api.ErrLedgerNever},
		{"all below FIRST", pairs(0, 9), api.ErrLedgerNever},
		{"one number beyond", pairs(15, 20), api.ErrLedgerNever},
		{"just the number beyond", pairs(20, 20), api.ErrLedgerNever},
		{"far beyond", pairs(1000, api.MaxNumber), api.ErrLedgerNever},
		{"the greatest", pairs(math.MaxInt64, math.MaxInt64), api.ErrLedgerNever},
		{"around all", pairs(9, 20), api.ErrLedgerNever},
		{"in a later run", pairs(10, 11, 14, 13), api.ErrArg},
		{"in a later run, not sent", pairs(10, 11, 13, 13, 19, 20), api.ErrLedgerNever},
		{"in the last of many", pairs(10, 10, 13, 13, 19, 19, 18, 18, 9, 9), api.ErrLedgerNever},
		{"in the first of many", pairs(20, 20, 10, 10, 13, 13), api.ErrLedgerNever},
		{"ErrArg ahead of ErrLedgerNever", pairs(14, 13, 20, 20), api.ErrArg},
		{"ErrLedgerNever ahead of ErrArg", pairs(20, 20, 14, 13), api.ErrLedgerNever},
		{"ErrLedgerNever ahead of Lo below 0", pairs(11, 11, 9, 9, -1, 12), api.ErrLedgerNever},
	} {
		l := ten(t)
		denies(t, c.say, l, c.want, c.runs...)
		ack(t, l, 13, 14)
		l.Lose(19)
		denies(t, "again, "+c.say, l, c.want, c.runs...)
		l.Drop()
		denies(t, "not open: "+c.say, l, api.ErrOver, c.runs...)
	}
	l := ten(t)
	l.Drop()
	denies(t, "not open, no run", l, api.ErrOver)
	denies(t, "not open, what was sent", l, api.ErrOver, api.Run{Lo: 10, Hi: 19})
}

// Numbers that were acknowledged, lost or forgotten ahead are no error, and answer nothing; they are in ACKED from then on.
func TestAckOfWhatIsGone(t *testing.T) {
	l := made(t, 10)
	addMany(t, l, 10, 10+api.MaxSent-1, asking)
	last := int64(10 + api.MaxSent)
	gone, err := l.Add(asking(last, 0))
	if tells(t, "P13.3: forgotten", gone, 10); err != api.OK {
		t.Fatalf("P13.3: Add(%d) answers %d", last, err)
	}
	l.Lose(12, 13)
	tells(t, "P13.4: 14", ack(t, l, 14, 14), 14)
	told(t, "P13.6: forgotten and lost, not acknowledged", l, 10, 13, false)
	tells(t, "P13.4: forgotten", ack(t, l, 10, 10))
	tells(t, "P13.4: lost", ack(t, l, 12, 12))
	tells(t, "P13.4: acknowledged", ack(t, l, 14, 14))
	toldJust(t, "P13.4: what is gone", l, 30, pairs(10, 10, 12, 12, 14, 14))
	tells(t, "P13.4: all of these among others", ack(t, l, 10, 16), 11, 15, 16)
	if v := l.View(); v.Largest != 16 {
		t.Errorf("P13.4: Largest %d, want 16", v.Largest)
	}
}

// Largest is the greatest that ever was, whatever comes behind it.
func TestLargestStays(t *testing.T) {
	l := ten(t)
	for _, c := range []struct{ lo, hi, want int64 }{{12, 12, 12}, {10, 11, 12}, {10, 14, 14}, {13, 13, 14}, {16, 16, 16}, {15, 15, 16}, {19, 19, 19}, {10, 18, 19}} {
		ack(t, l, c.lo, c.hi)
		if got := l.View().Largest; got != c.want {
			t.Errorf("P13.4: behind Ack(%d-%d) Largest is %d, want %d", c.lo, c.hi, got, c.want)
		}
	}
}

// odd are the runs of one number each, falling or rising, of n odd numbers.
func odd(n int64, falling bool) []api.Run {
	var l []api.Run
	for x := int64(1); x < 2*n; x += 2 {
		l = append(l, api.Run{Lo: x, Hi: x})
	}
	if falling {
		slices.Reverse(l)
	}
	return l
}

// A set of layer 2 with the bound MaxSent: of more runs the lowest go, but the packets of them are answered all the same.
func TestMoreRunsThanAreKept(t *testing.T) {
	for _, falling := range []bool{false, true} {
		for _, more := range []int64{0, 1, 2, 40} {
			l := made(t, 0)
			addMany(t, l, 0, 2, asking)
			addMany(t, l, 3, 2*(api.MaxSent+more)+5, bare)
			add(t, l, asking(2*(api.MaxSent+more)+6, 1))
			packets, err := l.Ack(odd(api.MaxSent+more, falling)...)
			if tells(t, "P13.4: in the lowest run", packets, 1); err != api.OK {
				t.Errorf("P13.4: many runs: %d", err)
			}
			if n := l.acked.Len(); n != api.MaxSent {
				t.Errorf("What follows: ACKED has %d runs", n)
			}
			toldJust(t, "P13.4: of more runs the lowest go", l, 2*(api.MaxSent+more)+20, odd(api.MaxSent+more, false)[more:])
			if got := l.View().Largest; got != 2*(api.MaxSent+more)-1 {
				t.Errorf("P13.4: Largest %d", got)
			}
		}
	}
}

// They are put in run by run: what one run lets go a later one of the same call doesn't bring back.
func TestRunByRun(t *testing.T) {
	l := made(t, 0)
	addMany(t, l, 0, 2*api.MaxSent+10, bare)
	l.Ack(odd(api.MaxSent, false)...)
	ack(t, l, 2*api.MaxSent+3, 2*api.MaxSent+3, 2, 2*api.MaxSent)
	toldJust(t, "P13.4: 1 went, ahead of the run that touches it", l, 2*api.MaxSent+9, pairs(2, 2*api.MaxSent, 2*api.MaxSent+3, 2*api.MaxSent+3))
	l = made(t, 0)
	addMany(t, l, 0, 2*api.MaxSent+10, bare)
	l.Ack(odd(api.MaxSent, false)...)
	ack(t, l, 2, 2*api.MaxSent, 2*api.MaxSent+3, 2*api.MaxSent+3)
	toldJust(t, "P13.4: 1 stays, as the run that touches it is the first", l, 2*api.MaxSent+9, pairs(1, 2*api.MaxSent, 2*api.MaxSent+3, 2*api.MaxSent+3))
}

// What was let go may be acknowledged again, and goes at once.
func TestAckBelowTheLowestRun(t *testing.T) {
	l := made(t, 0)
	add(t, l, asking(0, 0))
	addMany(t, l, 1, 2*api.MaxSent+10, bare)
	l.Ack(odd(api.MaxSent, false)[1:]...)
	ack(t, l, 2*api.MaxSent+5, 2*api.MaxSent+5)
	ahead := l.View()
	tells(t, "P13.4: a packet of a run that goes at once", ack(t, l, 0, 0), 0)
	told(t, "P13.4: a run that goes at once", l, 0, 2, false)
	ahead.Flight, ahead.Kept, ahead.Waiting = 0, 0, 0
	views(t, "P13.4: a run that goes at once", l, ahead)
	ack(t, l, 0, 2)
	told(t, "P13.4: one that joins the lowest run", l, 0, 0, true)
}

func TestTold(t *testing.T) {
	l := ten(t)
	ack(t, l, 11, 13, 16, 16)
	for _, c := range []struct {
		lo, hi int64
		want   bool
	}{
		{10, 10, false}, {11, 11, true}, {12, 12, true}, {13, 13, true}, {14, 14, false}, {15, 15, false}, {16, 16, true}, {17, 17, false},
		{0, 10, false}, {0, 11, true}, {13, 14, true}, {14, 15, false}, {14, 16, true}, {15, 17, true}, {16, 40, true}, {17, 40, false}, {10, 19, true},
		{13, 11, false}, {12, 11, false}, {16, 15, false}, {17, 16, false}, {math.MaxInt64, math.MinInt64, false},
		{math.MinInt64, math.MaxInt64, true}, {math.MinInt64, 10, false}, {math.MinInt64, 11, true}, {16, math.MaxInt64, true}, {17, math.MaxInt64, false}, {-1, -1, false},
	} {
		told(t, "P13.6: 11-13, 16 are in ACKED", l, c.lo, c.hi, c.want)
	}
	l.Lose(10, 14)
	told(t, "P13.6: what is lost isn't acknowledged", l, 14, 15, false)
	l.Drop()
	told(t, "P13.6: what is dropped isn't acknowledged", l, 14, 15, false)
	told(t, "P13.6: behind Drop as ahead of it", l, 16, 16, true)
}
