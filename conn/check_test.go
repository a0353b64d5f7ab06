package conn

import (
	"math"
	"testing"

	"portage/api"
)

// refused holds that neither Check nor New takes a configuration.
func refused(t *testing.T, say string, c api.Config, role int) {
	t.Helper()
	if err := Check(c, role); err != api.ErrConnConfig {
		t.Errorf("C1: Check, %s, role %d: %d", say, role, err)
	}
	if e, err := New(c, role, 0); e != nil || err != api.ErrConnConfig {
		t.Errorf("C1: New, %s, role %d: %v, %d", say, role, e, err)
	}
}

func taken(t *testing.T, say string, c api.Config, role int) {
	t.Helper()
	if err := Check(c, role); err != api.OK {
		t.Errorf("C1: Check, %s, role %d: %d", say, role, err)
	}
	if e, err := New(c, role, 0); e == nil || err != api.OK {
		t.Errorf("C1: New, %s, role %d: %v, %d", say, role, e, err)
	}
}

// A bound is what a number of a configuration may be.
type bound struct {
	say         string
	set         func(*api.Config, int64)
	least, most int64
}

func bounds() []bound {
	set := func(f func(*api.Config) *int64) func(*api.Config, int64) {
		return func(c *api.Config, n int64) { *f(c) = n }
	}
	return []bound{
		// The burst is two datagrams at least.
		{"MTU", func(c *api.Config, n int64) { c.MTU, c.Burst = int(n), api.MaxWindow }, 1200, 9000},
		{"Capacity", func(c *api.Config, n int64) { c.Capacity = int(n) }, 1, 65536},
		{"InitialRTT", set(func(c *api.Config) *int64 { return &c.InitialRTT }), 1, 60000000},
		// The cap is no less than the granularity.
		{"Granularity", func(c *api.Config, n int64) { c.Granularity, c.MaxPTO = n, api.MaxSpan }, 1, 1000000},
		{"MaxPTO", set(func(c *api.Config) *int64 { return &c.MaxPTO }), 1000, 1 << 36},
		{"MaxPTO of another granularity", func(c *api.Config, n int64) { c.Granularity, c.MaxPTO = 4321, n }, 4321, 1 << 36},
		{"Burst", set(func(c *api.Config) *int64 { return &c.Burst }), 2400, 1 << 20},
		{"Burst of greater datagrams", func(c *api.Config, n int64) { c.MTU, c.Burst = 1201, n }, 2402, 1 << 20},
		{"First of Initial", set(func(c *api.Config) *int64 { return &c.First[0] }), 0, 1 << 30},
		{"First of Handshake", set(func(c *api.Config) *int64 { return &c.First[1] }), 0, 1 << 30},
		{"First of App", set(func(c *api.Config) *int64 { return &c.First[2] }), 0, 1 << 30},
		{"Idle", set(func(c *api.Config) *int64 { return &c.Idle }), 0, 1 << 36},
		{"Data", set(func(c *api.Config) *int64 { return &c.Data }), 0, 1 << 20},
		{"StreamOwn", set(func(c *api.Config) *int64 { return &c.StreamOwn }), 0, 1 << 20},
		{"StreamHis", set(func(c *api.Config) *int64 { return &c.StreamHis }), 0, 1 << 20},
		{"StreamUni", set(func(c *api.Config) *int64 { return &c.StreamUni }), 0, 1 << 20},
		{"Bidi", set(func(c *api.Config) *int64 { return &c.Bidi }), 0, 32},
		{"Uni", set(func(c *api.Config) *int64 { return &c.Uni }), 0, 32},
		{"AckExp", func(c *api.Config, n int64) { c.AckExp = int(n) }, 0, 20},
		{"AckDelay", set(func(c *api.Config) *int64 { return &c.AckDelay }), 0, 16383000},
	}
}

// C1: each bound at, below and above it, in both roles; far away, too.
func TestBounds(t *testing.T) {
	for _, b := range bounds() {
		for role := range 2 {
			with := func(n int64) api.Config {
				return changed(role, func(c *api.Config) { b.set(c, n) })
			}
			taken(t, b.say+" at its least", with(b.least), role)
			taken(t, b.say+" at its greatest", with(b.most), role)
			taken(t, b.say+" between", with((b.least+b.most)/2), role)
			for _, n := range []int64{b.least - 1, b.most + 1, math.MinInt64, math.MaxInt64, b.least - 1<<32, b.most + 1<<32} {
				refused(t, b.say+" out of its bounds", with(n), role)
			}
		}
	}
}

// C1: 20 and 0 bytes, and one more or less, of ids.
func TestBoundsOfIDs(t *testing.T) {
	for role := range 2 {
		for n := range 24 {
			c := changed(role, func(c *api.Config) { c.ID = make([]byte, n) })
			if n >= 1 && n <= 20 {
				taken(t, "an ID that may be", c, role)
			} else {
				refused(t, "an ID that may not be", c, role)
			}
			c = changed(role, func(c *api.Config) { c.To = make([]byte, n) })
			if n >= 1 && n <= 20 && role == api.Client || n == 0 && role == api.Server {
				taken(t, "a To that may be", c, role)
			} else {
				refused(t, "a To that may not be", c, role)
			}
		}
		refused(t, "no ID", changed(role, func(c *api.Config) { c.ID = nil }), role)
	}
	taken(t, "no To of a server", changed(api.Server, func(c *api.Config) { c.To = nil }), api.Server)
	refused(t, "no To of a client", changed(api.Client, func(c *api.Config) { c.To = nil }), api.Client)
	refused(t, "a server's as a client's", config(api.Server), api.Client)
	refused(t, "a client's as a server's", config(api.Client), api.Server)
}

// C1: of neither role.
func TestBoundsOfRoles(t *testing.T) {
	for _, role := range []int{-1, 2, 3, 256, math.MinInt, math.MaxInt} {
		for of := range 2 {
			refused(t, "neither role", config(of), role)
		}
	}
	refused(t, "nothing", api.Config{}, api.Client)
	refused(t, "nothing", api.Config{}, api.Server)
}

// C1: an end that is new, at whatever time.
func TestNew(t *testing.T) {
	for role := range 2 {
		for _, now := range []int64{0, 5, 1 << 40, api.MaxTime, api.MaxTime + 1, math.MaxInt64, -1, math.MinInt64} {
			clock := min(max(now, 0), api.MaxTime)
			for _, idle := range []int64{0, 1, 900000, 900001, 5000000} {
				e, err := New(changed(role, func(c *api.Config) { c.Idle = idle }), role, now)
				is(t, "C1: New", err, api.OK)
				v := e.View()
				want := api.ConnView{Role: role, Validated: role == api.Client, Open: [3]bool{true, false, false}, IdleAt: api.Never, EndAt: api.Never, Recovery: v.Recovery}
				if idle > 0 {
					want.IdleAt = clock + max(idle, 900000)
				}
				if role == api.Client {
					// HELLO is written: two bytes, the terms that aren't the default, and the idle time's three or six.
					want.Held = 32 + min(3*idle, 6)
				}
				is(t, "C1: a new end", v, want)
				is(t, "C6: its deadline", e.Deadline(), want.IdleAt)
				is(t, "C9: its window", v.Recovery.Window, api.Window{Size: 12000, Threshold: v.Recovery.Window.Threshold, Began: -1})
				is(t, "C9: no streams", len(e.Streams()), 0)
				is(t, "C9: no events", len(e.Events()), 0)
				// The clock is that of New from the beginning on.
				e.Close(0, 1, nil)
				is(t, "R5: the clock", e.View().EndAt, clock+900000)
			}
		}
	}
}

// C1: Cubic, Pace and Marks may be as one likes, and first numbers are the first.
func TestConfigured(t *testing.T) {
	for bits := range 8 {
		c := changed(api.Client, func(c *api.Config) {
			c.Cubic, c.Pace, c.Marks = bits&1 > 0, bits&2 > 0, bits&4 > 0
			c.First = [3]int64{1 << 30, 7, 9}
		})
		e := made(t, c, api.Client)
		b, mark, ok := e.Send(0)
		want := api.Unmarked
		if c.Marks {
			want = api.Capable
		}
		if !ok || mark != want {
			t.Errorf("C5: the mark %d, want %d", mark, want)
		}
		if p := sees(t, b, 1)[0]; p.Number != 1<<30 || p.Width != 4 {
			t.Errorf("C5: number %d, width %d", p.Number, p.Width)
		}
		v := e.View()
		is(t, "C9: the next numbers", [3]int64{v.Recovery.Spaces[0].Next, v.Recovery.Spaces[1].Next, v.Recovery.Spaces[2].Next}, [3]int64{1<<30 + 1, 7, 9})
	}
}
