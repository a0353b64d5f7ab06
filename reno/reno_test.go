package reno

import (
	"math"
	"testing"

	"portage/api"
)

// made is a new one.
func made(t *testing.T, mtu int) *Ctl {
	t.Helper()
	c, err := New(mtu)
	if c == nil || err != api.OK {
		t.Fatalf("P10.1: New(%d) = %v, %d, want one and OK", mtu, c, err)
	}
	return c
}

// win is what a view tells.
func win(size, threshold, flight, began int64) api.Window {
	return api.Window{Size: size, Threshold: threshold, Flight: flight, Began: began}
}

// views fails if one's view is another.
func views(t *testing.T, say string, c *Ctl, want api.Window) {
	t.Helper()
	if got := c.View(); got != want {
		t.Errorf("%s: View() = %+v, want %+v", say, got, want)
	}
}

// cuts fails if an Event answers otherwise.
func cuts(t *testing.T, say string, c *Ctl, now, sent int64, want bool) {
	t.Helper()
	if got := c.Event(now, sent); got != want {
		t.Errorf("%s: Event(%d, %d) = %t, want %t", say, now, sent, got, want)
	}
}

// may fails if May answers otherwise.
func may(t *testing.T, say string, c *Ctl, size int64, want bool) {
	t.Helper()
	if got := c.May(size); got != want {
		t.Errorf("%s: May(%d) = %t, want %t, at %+v", say, size, got, want, c.View())
	}
}

// sends counts so many bytes as sent, in pieces.
func sends(c *Ctl, total int64) {
	for total > 0 {
		n := min(total, 65535)
		c.Sent(n)
		total -= n
	}
}

// acks counts so many bytes as acknowledged, in pieces, and raises by them.
func acks(c *Ctl, now, sent, total int64) {
	for total > 0 {
		n := min(total, 1000)
		c.Acked(now, sent, n, false)
		total -= n
	}
}

const open = api.MaxNumber // the threshold, as long as nothing was cut

func TestExamples(t *testing.T) {
	c := made(t, 1200)
	views(t, "P10.1: New", c, win(12000, open, 0, -1))
	for range 10 {
		c.Sent(1200)
	}
	may(t, "P10.6: the window is full", c, 1, false)
	may(t, "P10.6: the window is full", c, 0, true)
	views(t, "P10.2: ten were sent", c, win(12000, open, 12000, -1))
	c.Acked(100, 10, 1200, false)
	views(t, "P10.3: slow start", c, win(13200, open, 10800, -1))
	c.Acked(101, 10, 1200, true)
	views(t, "P10.3: limited", c, win(13200, open, 9600, -1))
	c.Lost(1200)
	cuts(t, "P10.4: the first", c, 200, 12, true)
	views(t, "P10.4: cut", c, win(6600, 6600, 8400, 200))
	cuts(t, "P10.4: sent as it was cut", c, 210, 200, false)
	views(t, "P10.4: not cut", c, win(6600, 6600, 8400, 200))
	c.Acked(220, 150, 1200, false)
	views(t, "P10.3: sent ahead of the cut", c, win(6600, 6600, 7200, 200))
	for i := range int64(5) {
		c.Acked(230, 210, 1200, false)
		views(t, "P10.3: less than a window", c, win(6600, 6600, 6000-1200*i, 200))
	}
	c.Acked(230, 210, 1200, false)
	views(t, "P10.3: a window", c, win(7800, 6600, 0, 200))
	cuts(t, "P10.4: sent behind the cut", c, 300, 201, true)
	views(t, "P10.4: cut again", c, win(3900, 3900, 0, 300))
	c.Collapse()
	views(t, "P10.5: collapsed", c, win(2400, 3900, 0, -1))
	c.Acked(310, 5, 1200, false)
	views(t, "P10.3: slow start again", c, win(3600, 3900, 0, -1))
}

func TestNewTakes(t *testing.T) {
	for _, x := range []struct {
		mtu  int
		size int64
	}{
		{1200, 12000}, {1201, 12010}, {1471, 14710}, {1472, 14720}, {1473, 14720}, {1500, 14720}, {1840, 14720}, {7359, 14720},
		{7360, 14720}, {7361, 14722}, {8000, 16000}, {8999, 17998}, {9000, 18000},
	} {
		views(t, "P10.1: New", made(t, x.mtu), win(x.size, open, 0, -1))
	}
}

// All that may be: the lesser one of 10 mtu and of what is greater of 14720 and 2 mtu.
func TestNewTakesEach(t *testing.T) {
	for mtu := 1200; mtu <= 9000; mtu++ {
		size := int64(14720)
		if mtu < 1472 {
			size = int64(10 * mtu)
		} else if mtu > 7360 {
			size = int64(2 * mtu)
		}
		views(t, "P10.1: New", made(t, mtu), win(size, open, 0, -1))
	}
}

func TestNewRefuses(t *testing.T) {
	for _, mtu := range []int{math.MinInt, -9000, -1200, -1, 0, 1, 1199, 9001, 9002, 65535, math.MaxInt, 1<<32 + 1200, 1<<32 + 1472} {
		if c, err := New(mtu); c != nil || err != api.ErrArg {
			t.Errorf("P10.1: New(%d) = %v, %d, want nil and ErrArg", mtu, c, err)
		}
	}
}

// taken is how a size that is handed in counts.
var taken = []struct{ size, as int64 }{
	{math.MinInt64, 0}, {-65535, 0}, {-1, 0}, {0, 0}, {1, 1}, {1200, 1200}, {65534, 65534}, {65535, 65535}, {65536, 65535},
	{1 << 32, 65535}, {1<<32 + 5, 65535}, {api.MaxNumber, 65535}, {math.MaxInt64, 65535},
}

func TestSent(t *testing.T) {
	for _, x := range taken {
		c := made(t, 1200)
		c.Sent(x.size)
		views(t, "P10.2: Sent", c, win(12000, open, x.as, -1))
		c.Sent(7)
		c.Sent(x.size)
		views(t, "P10.2: Sent thrice", c, win(12000, open, 2*x.as+7, -1))
	}
}

// Lost, Dropped and an Acked that is limited take off Flight alike.
func TestFlightIsLess(t *testing.T) {
	for _, way := range []struct {
		say  string
		less func(c *Ctl, size int64)
	}{
		{"P10.2: Lost", (*Ctl).Lost},
		{"P10.2: Dropped", (*Ctl).Dropped},
		{"P10.3: Acked", func(c *Ctl, size int64) { c.Acked(0, 0, size, true) }},
	} {
		for _, x := range taken {
			c := made(t, 1200)
			sends(c, 65536)
			way.less(c, x.size)
			views(t, way.say, c, win(12000, open, 65536-x.as, -1))
		}
		for _, x := range []struct{ flight, size, left int64 }{
			{0, 0, 0}, {0, 1, 0}, {0, 65535, 0}, {0, -1, 0}, {1199, 1200, 0}, {1200, 1200, 0}, {1201, 1200, 1},
			{1200, 65535, 0}, {1200, math.MaxInt64, 0}, {1200, math.MinInt64, 1200}, {65536, math.MaxInt64, 1},
		} {
			c := made(t, 1200)
			sends(c, x.flight)
			way.less(c, x.size)
			views(t, way.say+" of more or less than Flight", c, win(12000, open, x.left, -1))
			c.Sent(100)
			views(t, way.say+", and Sent behind it: nothing is owed", c, win(12000, open, x.left+100, -1))
		}
	}
}

// What was lost or dropped neither cuts nor raises by itself: the window, and the rest, stay.
func TestLostAndDroppedLeaveTheWindow(t *testing.T) {
	c := made(t, 1200)
	cuts(t, "P10.4", c, 100, 5, true)
	sends(c, 30000)
	acks(c, 200, 150, 5999)
	views(t, "P10.3: all but one byte of a window", c, win(6000, 6000, 24001, 100))
	c.Lost(1200)
	c.Dropped(1200)
	c.Sent(1200)
	views(t, "P10.2: Lost, Dropped, Sent", c, win(6000, 6000, 22801, 100))
	c.Acked(200, 150, 1, false)
	views(t, "P10.3: the last byte of a window", c, win(7200, 6000, 22800, 100))
}

func TestMay(t *testing.T) {
	for _, x := range []struct {
		say          string
		flight, size int64
		want         bool
	}{
		{"nothing, of a window that is free", 0, 0, true},
		{"just what is free", 0, 12000, true},
		{"one more", 0, 12001, false},
		{"one less", 0, 11999, true},
		{"just what is left", 10800, 1200, true},
		{"one more than is left", 10800, 1201, false},
		{"one less than is left", 10800, 1199, true},
		{"nothing, one byte being left", 11999, 0, true},
		{"one byte, one being left", 11999, 1, true},
		{"two bytes, one being left", 11999, 2, false},
		{"nothing, of a full one", 12000, 0, true},
		{"a byte, of a full one", 12000, 1, false},
		{"nothing, Flight being above Size", 12001, 0, false},
		{"a byte, Flight being above Size", 12001, 1, false},
		{"nothing, Flight being far above Size", 1 << 20, 0, false},
		{"below nothing, of a full one", 12000, -1, true},
		{"below nothing, Flight being above Size", 12001, -1, false},
		{"the least, Flight being above Size", 12001, math.MinInt64, false},
		{"the greatest", 0, math.MaxInt64, false},
		{"the greatest, of a full one", 12000, math.MaxInt64, false},
	} {
		c := made(t, 1200)
		sends(c, x.flight)
		may(t, "P10.6: "+x.say, c, x.size, x.want)
		views(t, "P10.6: May changes nothing", c, win(12000, open, x.flight, -1))
	}
}

// A size above 65535 counts as that: with so much free it may go.
func TestMayOfMoreThanASize(t *testing.T) {
	c := made(t, 1200)
	c.Acked(1, 1, 65535-12000-1, false)
	for _, size := range []int64{65534, 65535, 65536, math.MaxInt64} {
		may(t, "P10.6: a window of 65534", c, size, size == 65534)
	}
	c.Acked(1, 1, 1, false)
	for _, size := range []int64{65534, 65535, 65536, api.MaxNumber, math.MaxInt64} {
		may(t, "P10.6: a window of 65535", c, size, true)
	}
}

// May hangs on Size as it is now, behind a raise, a cut and a collapse.
func TestMayFollowsTheWindow(t *testing.T) {
	c := made(t, 1200)
	c.Sent(2400)
	c.Acked(1, 1, 1200, false)
	may(t, "P10.6: raised to 13200, 1200 under way", c, 12000, true)
	may(t, "P10.6: raised to 13200, 1200 under way", c, 12001, false)
	cuts(t, "P10.4", c, 2, 1, true)
	may(t, "P10.6: cut to 6600", c, 5400, true)
	may(t, "P10.6: cut to 6600", c, 5401, false)
	c.Collapse()
	may(t, "P10.6: collapsed to 2400", c, 1200, true)
	may(t, "P10.6: collapsed to 2400", c, 1201, false)
}

// What is told belongs to the one that asked: nothing that he does to it comes back (R3).
func TestViewIsNew(t *testing.T) {
	c := made(t, 1200)
	c.Sent(500)
	v := c.View()
	v.Size, v.Threshold, v.Flight, v.Began = 1, 2, 3, 4
	views(t, "View: one that was changed", c, win(12000, open, 500, -1))
}

// Two know nothing of one another (R4).
func TestTwoInTurns(t *testing.T) {
	a, b := made(t, 1200), made(t, 9000)
	a.Sent(5000)
	views(t, "R4: the other one sent", b, win(18000, open, 0, -1))
	cuts(t, "R4: the first", a, 900, 0, true)
	b.Acked(10, 10, 1000, false)
	views(t, "R4: the other one was cut", b, win(19000, open, 0, -1))
	cuts(t, "R4: the other one's clock is 900", b, 20, 20, true)
	views(t, "R4: the other one's clock is 900", b, win(18000, 9500, 0, 20))
	acks(a, 901, 901, 5999)
	acks(b, 901, 901, 17999)
	a.Acked(901, 901, 1, false)
	views(t, "R4: the rest is its own", a, win(7200, 6000, 0, 900))
	b.Acked(901, 901, 1, false)
	views(t, "R4: the rest is its own, and mtu", b, win(27000, 9500, 0, 20))
	a.Collapse()
	views(t, "R4: the other one collapsed", b, win(27000, 9500, 0, 20))
	b.Sent(27000)
	may(t, "R4: the other one is full", a, 2400, true)
	may(t, "R4: the other one is free", b, 1, false)
}
