package cubic

import (
	"math"
	"testing"

	"portage/api"
)

const (
	open   = api.MaxNumber // the threshold, as long as nothing was cut
	second = 1000000
)

// made is a new one.
func made(t *testing.T, mtu int) *Ctl {
	t.Helper()
	c, err := New(mtu)
	if c == nil || err != api.OK {
		t.Fatalf("P11.1: New(%d) = %v, %d, want one and OK", mtu, c, err)
	}
	return c
}

// win is what a view tells.
func win(size, threshold, flight, began int64) api.Window {
	return api.Window{Size: size, Threshold: threshold, Flight: flight, Began: began}
}

// views fails if one's view is another.
func views(t *testing.T, say string, c *Ctl, want api.Window) {
	t.Helper()
	if got := c.View(); got != want {
		t.Errorf("%s: View() = %+v, want %+v", say, got, want)
	}
}

// sized fails if one's Size is another.
func sized(t *testing.T, say string, c *Ctl, want int64) {
	t.Helper()
	if got := c.View(); got.Size != want {
		t.Errorf("%s: View() = %+v, want a Size of %d", say, got, want)
	}
}

// cuts fails if an Event answers otherwise.
func cuts(t *testing.T, say string, c *Ctl, now, sent int64, want bool) {
	t.Helper()
	if got := c.Event(now, sent); got != want {
		t.Errorf("%s: Event(%d, %d) = %t, want %t", say, now, sent, got, want)
	}
}

// may fails if May answers otherwise.
func may(t *testing.T, say string, c *Ctl, size int64, want bool) {
	t.Helper()
	if got := c.May(size); got != want {
		t.Errorf("%s: May(%d) = %t, want %t, at %+v", say, size, got, want, c.View())
	}
}

// sends counts so many bytes as sent, in pieces.
func sends(c *Ctl, total int64) {
	for total > 0 {
		n := min(total, 65535)
		c.Sent(n)
		total -= n
	}
}

// risen is one that came to so great a Size in slow start; its clock is 0.
func risen(t *testing.T, mtu int, size int64) *Ctl {
	t.Helper()
	c := made(t, mtu)
	for c.View().Size < size {
		c.Acked(0, 0, min(size-c.View().Size, 65535), false)
	}
	views(t, "P11.2: slow start", c, win(size, open, 0, -1))
	return c
}

// fallen is one that was cut at 1000, so great a Size being its PEAK.
func fallen(t *testing.T, mtu int, peak int64) *Ctl {
	t.Helper()
	c := risen(t, mtu, peak)
	cuts(t, "P11.3: the first", c, 1000, 0, true)
	return c
}

// back is one that was cut at 1000 from a peak, collapsed, and came to a Size by slow start: no recovery period is left.
func back(t *testing.T, mtu int, peak, size int64) *Ctl {
	t.Helper()
	c := fallen(t, mtu, peak)
	c.Collapse()
	c.Acked(1000, 0, size-c.View().Size, false)
	views(t, "P11.4: slow start behind it", c, win(size, 7*peak/10, 0, -1))
	return c
}

// begin lets the curve begin, and raises nothing: what is acknowledged is no byte.
func begin(t *testing.T, c *Ctl, now int64) {
	t.Helper()
	want := c.View()
	c.Acked(now, now, 0, false)
	views(t, "P11.2: nothing is acknowledged", c, want)
}

// whole acknowledges as much as Size: the window goes to its target, as far as that is whole bytes.
func whole(c *Ctl, now int64) {
	c.Acked(now, now, c.View().Size, false)
}

func TestExamples(t *testing.T) {
	c := made(t, 1200)
	for range 8 {
		c.Sent(2400)
		c.Acked(1000, 0, 1200, false)
	}
	views(t, "P11.2: slow start", c, win(21600, open, 9600, -1))
	cuts(t, "P11.3: the first", c, 2000000, 5000, true)
	views(t, "P11.3: cut", c, win(15120, 15120, 9600, 2000000))
	c.Acked(2100000, 2050000, 1200, false)
	views(t, "P11.2: the curve begins", c, win(15124, 15120, 8400, 2000000))
	c.Acked(2100000, 2050000, 1200, false)
	views(t, "P11.2: the same once more", c, win(15131, 15120, 7200, 2000000))
	c.Acked(4000000, 2050000, 1200, false)
	views(t, "P11.2: nearly at its height", c, win(15640, 15120, 6000, 2000000))
	for range 20 {
		c.Acked(4481102, 2050000, 1200, false)
	}
	views(t, "P11.2: at its height", c, win(20073, 15120, 0, 2000000))
	cuts(t, "P11.3: the second", c, 5000000, 4900000, true)
	views(t, "P11.3: cut again", c, win(14051, 14051, 0, 5000000))
}

// What stands beside the examples: PEAK, ORIGIN and K show in the curve, PART in what a last little piece does.
func TestBesideTheExamples(t *testing.T) {
	for _, x := range []struct {
		say       string
		now, size int64
	}{
		{"at K the curve waits at PEAK", 2100000 + 2381102, 21600},
		{"half a second behind K", 2100000 + 2381102 + 500000, 21660},
		{"just ahead of that", 2100000 + 2381102 + 499999, 21659},
		{"half a second ahead of K", 2100000 + 2381102 - 500000, 21540},
		{"just ahead of that, too", 2100000 + 2381102 - 500001, 21539},
	} {
		c := fallen(t, 1200, 21600)
		begin(t, c, 2100000)
		whole(c, x.now)
		sized(t, "P11.2: "+x.say, c, x.size)
	}
	for _, x := range []struct {
		say         string
		times, left int64 // how often 1200 were acknowledged; the greatest piece that does not raise yet
	}{
		{"PART is 0.0016", 1, 262},
		{"PART is 0.684", 2, 51},
	} {
		for _, more := range []int64{0, 1} {
			c := fallen(t, 1200, 21600)
			for range x.times {
				c.Acked(2100000, 2050000, 1200, false)
			}
			was := c.View().Size
			c.Acked(2100000, 2050000, x.left+more, false)
			sized(t, "P11.2: "+x.say, c, was+more)
		}
	}
	// The second PEAK is 20073 x 0.85: 17062 and a little, so that a window of 17062 is below it, and one of 17063 above.
	for _, x := range []struct{ size, end int64 }{{17062, 17062 + 635}, {17063, 17063 + 1200}} {
		c := back(t, 1200, 21600, 20073)
		cuts(t, "P11.3: below PEAK", c, 5000000, 4900000, true)
		c.Collapse()
		c.Acked(5000000, 5000000, x.size-2400, false)
		whole(c, 5000000)
		sized(t, "P11.3: PEAK is 17062.05", c, x.end)
	}
}

func TestNewTakes(t *testing.T) {
	for _, x := range []struct {
		mtu  int
		size int64
	}{
		{1200, 12000}, {1201, 12010}, {1471, 14710}, {1472, 14720}, {1473, 14720}, {1500, 14720}, {1840, 14720}, {7359, 14720},
		{7360, 14720}, {7361, 14722}, {8000, 16000}, {8999, 17998}, {9000, 18000},
	} {
		views(t, "P11.1: New", made(t, x.mtu), win(x.size, open, 0, -1))
	}
}

// All that may be: the lesser one of 10 mtu and of what is greater of 14720 and 2 mtu.
func TestNewTakesEach(t *testing.T) {
	for mtu := 1200; mtu <= 9000; mtu++ {
		size := int64(14720)
		if mtu < 1472 {
			size = int64(10 * mtu)
		} else if mtu > 7360 {
			size = int64(2 * mtu)
		}
		views(t, "P11.1: New", made(t, mtu), win(size, open, 0, -1))
	}
}

func TestNewRefuses(t *testing.T) {
	for _, mtu := range []int{math.MinInt, -9000, -1200, -1, 0, 1, 1199, 9001, 9002, 65535, math.MaxInt, 1<<32 + 1200, 1<<32 + 1472} {
		if c, err := New(mtu); c != nil || err != api.ErrArg {
			t.Errorf("P11.1: New(%d) = %v, %d, want nil and ErrArg", mtu, c, err)
		}
	}
}

// taken is how a size that is handed in counts.
var taken = []struct{ size, as int64 }{
	{math.MinInt64, 0}, {-65535, 0}, {-1, 0}, {0, 0}, {1, 1}, {1200, 1200}, {65534, 65534}, {65535, 65535}, {65536, 65535},
	{1 << 32, 65535}, {1<<32 + 5, 65535}, {api.MaxNumber, 65535}, {math.MaxInt64, 65535},
}

func TestSent(t *testing.T) {
	for _, x := range taken {
		c := made(t, 1200)
		c.Sent(x.size)
		views(t, "P11.1: Sent", c, win(12000, open, x.as, -1))
		c.Sent(7)
		c.Sent(x.size)
		views(t, "P11.1: Sent thrice", c, win(12000, open, 2*x.as+7, -1))
	}
}

// Lost, Dropped and an Acked that is limited take off Flight alike.
func TestFlightIsLess(t *testing.T) {
	for _, way := range []struct {
		say  string
		less func(c *Ctl, size int64)
	}{
		{"P11.1: Lost", (*Ctl).Lost},
		{"P11.1: Dropped", (*Ctl).Dropped},
		{"P11.2: Acked", func(c *Ctl, size int64) { c.Acked(0, 0, size, true) }},
	} {
		for _, x := range taken {
			c := made(t, 1200)
			sends(c, 65536)
			way.less(c, x.size)
			views(t, way.say, c, win(12000, open, 65536-x.as, -1))
		}
		for _, x := range []struct{ flight, size, left int64 }{
			{0, 0, 0}, {0, 1, 0}, {0, 65535, 0}, {0, -1, 0}, {1199, 1200, 0}, {1200, 1200, 0}, {1201, 1200, 1},
			{1200, 65535, 0}, {1200, math.MaxInt64, 0}, {1200, math.MinInt64, 1200}, {65536, math.MaxInt64, 1},
		} {
			c := made(t, 1200)
			sends(c, x.flight)
			way.less(c, x.size)
			views(t, way.say+" of more or less than Flight", c, win(12000, open, x.left, -1))
			c.Sent(100)
			views(t, way.say+", and Sent behind it: nothing is owed", c, win(12000, open, x.left+100, -1))
		}
	}
}

// What is sent, lost, dropped or asked leaves the window, the curve and the part of a byte.
func TestNothingElseMovesTheWindow(t *testing.T) {
	c := fallen(t, 1200, 12800)
	begin(t, c, 2000)
	sends(c, 30000)
	for range 2 {
		c.Acked(2000+2*second, 2000, 1, false)
		views(t, "P11.2: less than a byte", c, win(8960, 8960, c.View().Flight, 1000))
	}
	c.Lost(1200)
	c.Dropped(1200)
	c.Sent(1200)
	may(t, "P11.1: May", c, 1200, false)
	views(t, "P11.1: Lost, Dropped, Sent, May", c, win(8960, 8960, 28798, 1000))
	c.Acked(2000+2*second, 2000, 1, false)
	views(t, "P11.2: the last piece of a byte", c, win(8961, 8960, 28797, 1000))
}

func TestMay(t *testing.T) {
	for _, x := range []struct {
		say          string
		flight, size int64
		want         bool
	}{
		{"nothing, of a window that is free", 0, 0, true},
		{"just what is free", 0, 12000, true},
		{"one more", 0, 12001, false},
		{"one less", 0, 11999, true},
		{"just what is left", 10800, 1200, true},
		{"one more than is left", 10800, 1201, false},
		{"one less than is left", 10800, 1199, true},
		{"nothing, one byte being left", 11999, 0, true},
		{"one byte, one being left", 11999, 1, true},
		{"two bytes, one being left", 11999, 2, false},
		{"nothing, of a full one", 12000, 0, true},
		{"a byte, of a full one", 12000, 1, false},
		{"nothing, Flight being above Size", 12001, 0, false},
		{"a byte, Flight being above Size", 12001, 1, false},
		{"nothing, Flight being far above Size", 1 << 20, 0, false},
		{"below nothing, of a full one", 12000, -1, true},
		{"below nothing, Flight being above Size", 12001, -1, false},
		{"the least, Flight being above Size", 12001, math.MinInt64, false},
		{"the greatest", 0, math.MaxInt64, false},
		{"the greatest, of a full one", 12000, math.MaxInt64, false},
	} {
		c := made(t, 1200)
		sends(c, x.flight)
		may(t, "P11.1: "+x.say, c, x.size, x.want)
		views(t, "P11.1: May changes nothing", c, win(12000, open, x.flight, -1))
	}
}

// A size above 65535 counts as that: with so much free it may go.
func TestMayOfMoreThanASize(t *testing.T) {
	c := risen(t, 1200, 65534)
	for _, size := range []int64{65534, 65535, 65536, math.MaxInt64} {
		may(t, "P11.1: a window of 65534", c, size, size == 65534)
	}
	c.Acked(1, 1, 1, false)
	for _, size := range []int64{65534, 65535, 65536, api.MaxNumber, math.MaxInt64} {
		may(t, "P11.1: a window of 65535", c, size, true)
	}
}

// May hangs on Size as it is now, behind a raise, a cut, the curve and a collapse.
func TestMayFollowsTheWindow(t *testing.T) {
	c := made(t, 1200)
	c.Sent(2000)
	c.Acked(1, 1, 800, false)
	may(t, "P11.1: raised to 12800, 1200 under way", c, 11600, true)
	may(t, "P11.1: raised to 12800, 1200 under way", c, 11601, false)
	cuts(t, "P11.3", c, 2, 1, true)
	may(t, "P11.1: cut to 8960", c, 7760, true)
	may(t, "P11.1: cut to 8960", c, 7761, false)
	begin(t, c, 3)
	c.Sent(8960)
	whole(c, 3+2*second)
	may(t, "P11.1: back at 12800", c, 11600, true)
	may(t, "P11.1: back at 12800", c, 11601, false)
	c.Collapse()
	may(t, "P11.1: collapsed to 2400", c, 1200, true)
	may(t, "P11.1: collapsed to 2400", c, 1201, false)
}

// What is told belongs to the one that asked: nothing that he does to it comes back (R3).
func TestViewIsNew(t *testing.T) {
	c := made(t, 1200)
	c.Sent(500)
	v := c.View()
	v.Size, v.Threshold, v.Flight, v.Began = 1, 2, 3, 4
	views(t, "View: one that was changed", c, win(12000, open, 500, -1))
}

// Two know nothing of one another (R4): not of Flight, the clock, the cut, nor of the curve and all that hangs on it.
func TestTwoInTurns(t *testing.T) {
	a, b := made(t, 1200), made(t, 9000)
	a.Sent(5000)
	views(t, "R4: the other one sent", b, win(18000, open, 0, -1))
	a.Acked(10, 10, 800, false)
	cuts(t, "R4: the first", a, 900, 0, true)
	b.Acked(10, 10, 18000, false)
	views(t, "R4: the other one was cut", b, win(36000, open, 0, -1))
	cuts(t, "R4: the other one's clock is 900", b, 20, 20, true)
	views(t, "R4: the other one's clock is 900", b, win(25200, 25200, 0, 20))
	begin(t, a, 1000)
	begin(t, b, 2*second)
	whole(a, 1000+2*second)
	views(t, "R4: its own curve, at its height", a, win(12800, 8960, 0, 900))
	whole(b, 2*second+1442250+500000)
	views(t, "R4: its own curve, behind its height", b, win(36450, 25200, 0, 20))
	a.Collapse()
	views(t, "R4: the other one collapsed", b, win(36450, 25200, 0, 20))
	b.Sent(36450)
	may(t, "R4: the other one is full", a, 2400, true)
	may(t, "R4: the other one is free", b, 1, false)
}
