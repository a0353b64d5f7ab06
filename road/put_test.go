package road

import (
	"math"
	"slices"
	"strings"
	"testing"

	"portage/api"
)

func TestExample(t *testing.T) {
	r := made(t, 0, 10)
	put(t, r, 0, api.Server, "a", api.Unmarked, 0)
	put(t, r, 5, api.Client, "b", api.Capable, 1)
	if at := r.Next(); at != 10 {
		t.Errorf("Next = %d, want 10", at)
	}
	is(t, "Delay(0, 20)", r.Delay(0, 20), api.OK)
	takes(t, "the example", r, 15, "1c15+b")
	is(t, "Mark(1)", r.Mark(1), api.ErrNone)
	double(t, r, 0, 18, 2)
	takes(t, "the example", r, 30, "2s18-a 0s20-a")
	holds(t, "the example", r, "")
}

func TestNew(t *testing.T) {
	for _, span := range []int64{0, 1, 10, 1 << 20, api.MaxSpan - 1, api.MaxSpan} {
		for _, now := range []int64{0, 7, api.MaxTime} {
			r := made(t, now, span)
			holds(t, "W1: a new road", r, "")
			takes(t, "W1: a new road", r, now, "")
			put(t, r, 0, api.Client, "a", api.Unmarked, 0)
			if at := r.Next(); at != now+span {
				t.Errorf("W1: of New(%d, %d) the first arrives at %d", now, span, at)
			}
		}
	}
	for _, span := range []int64{math.MinInt64, -api.MaxSpan, -1, api.MaxSpan + 1, api.MaxTime, api.Never, math.MaxInt64} {
		for _, now := range []int64{0, 7, -1, api.MaxTime + 1} {
			if r, err := New(now, span); r != nil || err != api.ErrArg {
				t.Errorf("W1: New(%d, %d) = %v, %d, want nil, ErrArg", now, span, r, err)
			}
		}
	}
}

// A time below 0 or above MaxTime is one at that end.
func TestNewTimes(t *testing.T) {
	for _, c := range []struct{ now, clock int64 }{
		{math.MinInt64, 0}, {-1, 0}, {0, 0}, {1, 1}, {api.MaxTime - 1, api.MaxTime - 1}, {api.MaxTime, api.MaxTime},
		{api.MaxTime + 1, api.MaxTime}, {api.Never, api.MaxTime}, {math.MaxInt64, api.MaxTime},
	} {
		r := made(t, c.now, 10)
		put(t, r, -5, api.Client, "a", api.Unmarked, 0)
		if at := r.Next(); at != c.clock+10 {
			t.Errorf("R5: New(%d, 10), Put(-5) arrives at %d, want %d", c.now, at, c.clock+10)
		}
	}
}

// Each arrives at the clock and span, the clock goes never back, and it isn't cut at MaxTime what arrives behind it.
func TestPutTimes(t *testing.T) {
	for _, span := range []int64{0, 1, 1000, api.MaxSpan} {
		r := made(t, 100, span)
		for i, c := range []struct{ now, clock int64 }{
			{0, 100}, {100, 100}, {101, 101}, {50, 101}, {-1, 101}, {math.MinInt64, 101}, {5000, 5000}, {4999, 5000}, {1 << 40, 1 << 40},
			{api.MaxTime - 1, api.MaxTime - 1}, {api.MaxTime, api.MaxTime}, {api.MaxTime + 1, api.MaxTime}, {math.MaxInt64, api.MaxTime}, {0, api.MaxTime},
		} {
			put(t, r, c.now, api.Server, "a", api.Unmarked, i)
			if f := flightOf(t, r, i); f.At != c.clock+span {
				t.Errorf("W1: Put(%d) over a span of %d arrives at %d, want %d", c.now, span, f.At, c.clock+span)
			}
		}
	}
}

// flightOf is the datagram of a number.
func flightOf(t *testing.T, r *Road, id int) api.Flight {
	t.Helper()
	for f := range r.All() {
		if f.ID == id {
			return f
		}
	}
	t.Fatalf("number %d is not under way", id)
	return api.Flight{}
}

func TestPutKeepsWhatItIsHanded(t *testing.T) {
	r := made(t, 0, 0)
	var want []string
	id := 0
	for _, to := range []int{api.Client, api.Server} {
		for _, mark := range []int{api.Unmarked, api.Capable, api.Marked} {
			for _, n := range []int{0, 1, 2, 1200, api.MaxMTU - 1, api.MaxMTU} {
				text := strings.Repeat("\x00\xffz", n)[:n]
				put(t, r, 3, to, text, mark, id)
				want = append(want, one(api.Flight{ID: id, To: to, At: 3, Data: []byte(text), Mark: mark}))
				id++
			}
		}
	}
	holds(t, "W1", r, strings.Join(want, " "))
	takes(t, "W4", r, 3, strings.Join(want, " "))
}

// Where several things are wrong, the first that the promise names is told; nothing is put, no number is used.
func TestPutRefusals(t *testing.T) {
	long := make([]byte, api.MaxMTU+1)
	for _, full := range []bool{false, true} {
		r := made(t, 0, 10)
		put(t, r, 0, api.Client, "a", api.Capable, 0)
		if full {
			fill(t, r, 0)
		}
		for _, b := range [][]byte{nil, []byte("b"), long[:api.MaxMTU], long, make([]byte, 70000)} {
			for _, to := range []int{math.MinInt, -2, -1, 2, 3, 256, 257, 1 << 32, math.MaxInt} {
				refused(t, r, to, b, api.Capable, api.ErrArg)
				refused(t, r, to, b, 3, api.ErrArg)
			}
			for _, mark := range []int{math.MinInt, -2, -1, 3, 4, 256, 1 << 32, math.MaxInt} {
				refused(t, r, api.Client, b, mark, api.ErrArg)
				refused(t, r, api.Server, b, mark, api.ErrArg)
			}
		}
		for _, b := range [][]byte{long, make([]byte, 70000)} {
			refused(t, r, api.Client, b, api.Unmarked, api.ErrLong)
			refused(t, r, api.Server, b, api.Marked, api.ErrLong)
		}
		if full {
			refused(t, r, api.Client, nil, api.Unmarked, api.ErrFull)
			refused(t, r, api.Server, long[:api.MaxMTU], api.Marked, api.ErrFull)
			continue
		}
		put(t, r, 0, api.Server, "c", api.Unmarked, 1)
	}
}

func refused(t *testing.T, r *Road, to int, b []byte, mark int, want api.Errno) {
	t.Helper()
	unchanged(t, "W1: a Put that is refused", r, func() {
		if id, err := r.Put(0, to, b, mark); id != 0 || err != want {
			t.Errorf("W1: Put to %d of %d bytes with the mark %d = %d, %d, want 0, %d", to, len(b), mark, id, err, want)
		}
	})
}

// The clock goes on whatever Put answers.
func TestRefusedPutMovesTheClock(t *testing.T) {
	for _, c := range []struct {
		what string
		put  func(r *Road, now int64) (int, api.Errno)
		want api.Errno
	}{
		{"no end", func(r *Road, now int64) (int, api.Errno) { return r.Put(now, 2, nil, 0) }, api.ErrArg},
		{"no mark", func(r *Road, now int64) (int, api.Errno) { return r.Put(now, 0, nil, -1) }, api.ErrArg},
		{"too long", func(r *Road, now int64) (int, api.Errno) { return r.Put(now, 0, make([]byte, 9001), 0) }, api.ErrLong},
		{"full", func(r *Road, now int64) (int, api.Errno) { fill(t, r, 0); return r.Put(now, 0, nil, 0) }, api.ErrFull},
	} {
		for _, x := range []struct{ now, clock int64 }{{500, 500}, {99, 100}, {-1, 100}, {api.MaxTime, api.MaxTime}, {math.MaxInt64, api.MaxTime}} {
			r := made(t, 100, 10)
			if id, err := c.put(r, x.now); id != 0 || err != c.want {
				t.Errorf("W1: %s: %d, %d, want 0, %d", c.what, id, err, c.want)
			}
			n := r.Len()
			r.Lose(0)
			id, err := r.Put(0, api.Server, []byte("last"), api.Unmarked)
			if err != api.OK || id != n {
				t.Fatalf("W1: behind %s: Put = %d, %d, want %d", c.what, id, err, n)
			}
			if f := flightOf(t, r, id); f.At != x.clock+10 {
				t.Errorf("W1: behind a Put at %d that is refused (%s) one arrives at %d, want %d", x.now, c.what, f.At, x.clock+10)
			}
			if l := r.Take(0); x.clock >= 110 && n > 0 && len(l) != api.MaxFlight-1 || x.clock < 110 && len(l) != 0 {
				t.Errorf("W1: behind a Put at %d that is refused (%s) Take(0) tells %d", x.now, c.what, len(l))
			}
		}
	}
}

// Put takes nothing out, however far the clock goes with it.
func TestPutTakesNothing(t *testing.T) {
	r := made(t, 0, 10)
	put(t, r, 0, api.Server, "a", api.Unmarked, 0)
	put(t, r, 5000, api.Client, "b", api.Unmarked, 1)
	put(t, r, api.MaxTime, api.Client, "c", api.Unmarked, 2)
	holds(t, "W1", r, "0s10-a 1c5010-b 2c1125899906842634-c")
	takes(t, "W3", r, 0, "0s10-a 1c5010-b")
	takes(t, "R5: above MaxTime", r, math.MaxInt64, "")
	holds(t, "R5: above MaxTime", r, "2c1125899906842634-c")
}

func TestMostAtOneTime(t *testing.T) {
	r := made(t, 0, 10)
	fill(t, r, 0)
	sound(t, "W1: a full road", r)
	if n := r.Len(); n != api.MaxFlight {
		t.Errorf("W1: a full road holds %d", n)
	}
	if id, err := r.Put(0, api.Client, nil, 0); id != 0 || err != api.ErrFull {
		t.Errorf("W1: one too many: %d, %d", id, err)
	}
	is(t, "W2: Lose(77)", r.Lose(77), api.OK)
	put(t, r, 0, api.Client, "y", 0, api.MaxFlight)
	if id, err := r.Put(0, api.Client, nil, 0); id != 0 || err != api.ErrFull {
		t.Errorf("W1: one too many: %d, %d", id, err)
	}
	is(t, "W2: Delay(5, 3)", r.Delay(5, 3), api.OK)
	takes(t, "W3", r, 3, "5s3+x")
	put(t, r, 0, api.Client, "z", 0, api.MaxFlight+1)
	l := r.Take(20)
	if len(l) != api.MaxFlight || r.Len() != 0 || r.Next() != api.Never {
		t.Errorf("W3: %d of a full road are taken, %d are left", len(l), r.Len())
	}
	if !slices.IsSortedFunc(l[:api.MaxFlight-1], func(a, b api.Flight) int { return a.ID - b.ID }) || l[api.MaxFlight-1].ID != api.MaxFlight+1 {
		t.Error("W3: a full road isn't taken in order")
	}
	fill(t, r, 20)
	if id, err := r.Put(20, api.Client, nil, 0); id != 0 || err != api.ErrFull {
		t.Errorf("W1: one too many on a road that is full again: %d, %d", id, err)
	}
	if f := flightOf(t, r, 2*api.MaxFlight+1); f.At != 30 {
		t.Errorf("W1: on a road that is full again the last arrives at %d", f.At)
	}
	sound(t, "W1: a road that is full again", r)
}

// Numbers go on, each once, whatever became of those ahead, on many more datagrams than there are places.
func TestNumbersGoOn(t *testing.T) {
	r := made(t, 0, 3)
	next := 0
	for now := int64(0); now < 3*api.MaxFlight; now++ {
		put(t, r, now, api.Server, "a", api.Unmarked, next)
		double(t, r, next, now+7, next+1)
		r.Put(now, 9, nil, 0)
		r.Double(next, -1)
		is(t, "W2: Lose", r.Lose(next+int(now%2)), api.OK)
		next += 2
		for _, f := range r.Take(now) {
			if f.ID >= next || f.At > now {
				t.Fatalf("W3: at %d %s is taken", now, one(f))
			}
		}
	}
	if len(r.lying) > 20 {
		t.Errorf("places are not used again: there are %d", len(r.lying))
	}
	sound(t, "W1", r)
}
