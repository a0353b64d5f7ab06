package pace

import (
	"math"
	"math/big"
	"math/rand/v2"
	"testing"

	"portage/api"
)

// A step is a call that was made, by its name's first letter: Set (with N, as a new rate), When, Spend, Left.
type step struct {
	call           byte
	now            int64
	size           int64 // of When, Spend
	window, smooth int64 // of Set
}

// A reading is a second reading of the chapter's words, in numbers of any size: all that is there, LEFT and REST, is one number of parts, of which SPAN are a byte.
type reading struct {
	burst, clock int64
	parts        *big.Int
	rise, span   *big.Int
}

func newReading(burst int64) *reading {
	return &reading{burst: burst, parts: big.NewInt(burst), rise: new(big.Int), span: big.NewInt(1)}
}

// bytes is so many bytes, as parts.
func (r *reading) bytes(n int64) *big.Int {
	return new(big.Int).Mul(big.NewInt(n), r.span)
}

// left and rest, of parts that may be below 0: the rest never is.
func (r *reading) left() (int64, int64) {
	left, rest := new(big.Int).DivMod(r.parts, r.span, new(big.Int))
	return left.Int64(), rest.Int64()
}

// into takes x into least to most.
func into(x, least, most int64) int64 {
	if x < least {
		return least
	}
	if x > most {
		return most
	}
	return x
}

func (r *reading) pass(now int64) {
	now = into(now, r.clock, 1<<50)
	in := new(big.Int).Mul(big.NewInt(now-r.clock), r.rise)
	r.parts.Add(r.parts, in)
	if full := r.bytes(r.burst); r.parts.Cmp(full) > 0 {
		r.parts = full
	}
	r.clock = now
}

func (r *reading) set(window, smooth int64) {
	left, _ := r.left()
	r.rise = big.NewInt(5 * into(window, 0, 1<<40))
	r.span = big.NewInt(4 * into(smooth, 1, 1<<36))
	r.parts = r.bytes(left)
}

func (r *reading) when(size int64) int64 {
	missing := new(big.Int).Sub(r.bytes(into(size, 0, r.burst)), r.parts)
	if missing.Sign() <= 0 {
		return r.clock
	}
	if r.rise.Sign() == 0 {
		return 1 << 62
	}
	whole, more := new(big.Int).DivMod(missing, r.rise, new(big.Int))
	if more.Sign() > 0 {
		whole.Add(whole, big.NewInt(1))
	}
	return whole.Int64() + r.clock
}

func (r *reading) spend(size int64) {
	left, rest := r.left()
	left = into(left-into(size, 0, r.burst), -r.burst, r.burst)
	r.parts = new(big.Int).Add(r.bytes(left), big.NewInt(rest))
}

// take is what the call answers; 0, if it answers nothing.
func (r *reading) take(s step) int64 {
	r.pass(s.now)
	switch s.call {
	case 'N':
		r.set(s.window, s.smooth)
	case 'W':
		return r.when(s.size)
	case 'S':
		r.spend(s.size)
	case 'L':
		left, _ := r.left()
		return left
	}
	return 0
}

// play makes the call of a Pacer.
func play(p *Pacer, s step) int64 {
	switch s.call {
	case 'N':
		p.Set(s.now, s.window, s.smooth)
	case 'W':
		return p.When(s.now, s.size)
	case 'S':
		p.Spend(s.now, s.size)
	case 'L':
		return p.Left(s.now)
	}
	return 0
}

// anything is a number of any length.
func anything(r *rand.Rand) int64 {
	n := int64(r.Uint64() >> r.IntN(64))
	if r.IntN(4) == 0 {
		return -n
	}
	return n
}

// someTime is near the clock, where something of that size may go, at an edge, or anything.
func someTime(r *rand.Rand, m *reading, size int64) int64 {
	switch r.IntN(20) {
	case 0:
		return []int64{math.MinInt64, -1, 0, 1, api.MaxTime - 1, api.MaxTime, api.MaxTime + 1, math.MaxInt64}[r.IntN(8)]
	case 1:
		return m.clock + int64(r.Uint64()>>(16+r.IntN(48)))
	case 2:
		return m.clock - int64(r.IntN(1000))
	case 3, 4, 5, 6, 7:
		if at := m.when(size); at < api.MaxTime {
			return at + int64(r.IntN(3)) - 1
		}
	case 8, 9, 10, 11, 12:
		return m.clock + r.Int64N(5000)
	}
	return m.clock + int64(r.IntN(4))
}

// someSize is beside LEFT, what is missing to -BURST, at an edge, of a datagram, or anything.
func someSize(r *rand.Rand, m *reading) int64 {
	left, _ := m.left()
	switch r.IntN(10) {
	case 0:
		return []int64{math.MinInt64, -1, 0, 1, m.burst - 1, m.burst, m.burst + 1, math.MaxInt64}[r.IntN(8)]
	case 1:
		return anything(r)
	case 2, 3:
		return left + int64(r.IntN(3)) - 1
	case 4:
		return left + m.burst + int64(r.IntN(3)) - 1
	}
	return 1 + r.Int64N(1500)
}

// someRate is an ordinary one, at an edge, or anything.
func someRate(r *rand.Rand) (window, smooth int64) {
	switch r.IntN(8) {
	case 0:
		window = []int64{math.MinInt64, -1, 0, 1, 1<<40 - 1, 1 << 40, 1<<40 + 1, math.MaxInt64}[r.IntN(8)]
		smooth = []int64{math.MinInt64, 0, 1, 2, api.MaxSpan - 1, api.MaxSpan, api.MaxSpan + 1, math.MaxInt64}[r.IntN(8)]
	case 1:
		window, smooth = anything(r), anything(r)
	default:
		window, smooth = 2400+r.Int64N(100000), 100+r.Int64N(200000)
	}
	return window, smooth
}

func someStep(r *rand.Rand, m *reading) step {
	const calls = "NWWWSSSSLLL"
	s := step{call: calls[r.IntN(len(calls))], size: someSize(r, m)}
	s.now = someTime(r, m, s.size)
	s.window, s.smooth = someRate(r)
	return s
}

func someBurst(r *rand.Rand) int64 {
	if r.IntN(2) == 0 {
		return []int64{2400, 2401, 12000, api.MaxWindow - 1, api.MaxWindow}[r.IntN(5)]
	}
	return 2400 + r.Int64N(api.MaxWindow-2400+1)>>r.IntN(9)
}

// met counts how often each kind of case was met.
type met struct {
	full, least, later, never, beyond, rest, wide int
}

func (k *met) see(m *reading, s step, answer, ahead int64) {
	left, rest := m.left()
	count := func(n *int, is bool) {
		if is {
			*n++
		}
	}
	count(&k.full, left == m.burst)
	count(&k.least, left == -m.burst)
	count(&k.rest, rest > 0)
	count(&k.wide, new(big.Int).Mul(big.NewInt(m.clock-ahead), m.rise).BitLen() > 63)
	if s.call == 'W' {
		count(&k.later, answer > m.clock && answer <= api.MaxTime)
		count(&k.beyond, answer > api.MaxTime && answer < api.Never)
		count(&k.never, answer == api.Never)
	}
}

func TestAgainstASecondReading(t *testing.T) {
	r := rand.New(rand.NewPCG(12, 1))
	var k met
	for range 4000 {
		burst := someBurst(r)
		p, m := made(t, burst), newReading(burst)
		var steps []step
		for range 1 + r.IntN(60) {
			s, ahead := someStep(r, m), m.clock
			steps = append(steps, s)
			got, want := play(p, s), m.take(s)
			if got != want {
				t.Errorf("P12.4, P12.5: against a second reading: %d, want %d", got, want)
			}
			left, rest := m.left()
			holds(t, "P12.2: against a second reading", p, left, rest)
			whens(t, "R5: the clock, against a second reading", p, past, left, m.when(left))
			if t.Failed() {
				t.Fatalf("behind New(%d) and %+v", burst, steps)
			}
			k.see(m, s, got, ahead)
		}
	}
	for _, n := range []int{k.full, k.least, k.later, k.never, k.beyond, k.rest, k.wide} {
		if n < 300 {
			t.Errorf("a kind of case was met %d times alone: %+v", n, k)
		}
	}
}

// When is the least time from the clock on at which LEFT is at least size, if nothing but time passes (P12.4).
func TestWhenIsTheLeast(t *testing.T) {
	r := rand.New(rand.NewPCG(12, 2))
	var later, never int
	for range 2000 {
		burst := someBurst(r)
		p, m := made(t, burst), newReading(burst)
		for range 1 + r.IntN(30) {
			s := someStep(r, m)
			play(p, s)
			m.take(s)
		}
		for range 10 {
			size := someSize(r, m)
			at, need := p.When(past, size), into(size, 0, burst)
			ahead, then, last := *p, *p, *p
			if at > m.clock && ahead.Left(min(at-1, api.MaxTime)) >= need {
				t.Fatalf("P12.4: When(.., %d) = %d at %d, and earlier there is so much", size, at, m.clock)
			}
			if at <= api.MaxTime && (at < m.clock || then.Left(at) < need) {
				t.Fatalf("P12.4: When(.., %d) = %d at %d, and there isn't so much then", size, at, m.clock)
			}
			if at > api.MaxTime && last.Left(math.MaxInt64) >= need {
				t.Fatalf("P12.4: When(.., %d) = %d at %d, and at MaxTime there is so much", size, at, m.clock)
			}
			if at > m.clock {
				later++
			}
			if at > api.MaxTime {
				never++
			}
		}
	}
	if later < 1000 || never < 300 {
		t.Errorf("later %d, never %d: too few", later, never)
	}
}

// What follows: it doesn't matter in how many pieces time passes. The one is asked once, the other often, by Left, When and a Spend of nothing.
func TestPiecesDontMatter(t *testing.T) {
	r := rand.New(rand.NewPCG(12, 3))
	var pieces, between int
	for range 3000 {
		burst := someBurst(r)
		p, m := made(t, burst), newReading(burst)
		for range 1 + r.IntN(10) {
			s := someStep(r, m)
			play(p, s)
			m.take(s)
		}
		often, end := *p, min(someTime(r, m, someSize(r, m)), api.MaxTime)
		for now := m.clock; now < end && r.IntN(40) > 0; now += 1 + r.Int64N(end-now)>>r.IntN(40) {
			switch r.IntN(3) {
			case 0:
				often.Left(now)
			case 1:
				often.When(now, someSize(r, m))
			case 2:
				often.Spend(now, min(anything(r), 0))
			}
			pieces++
		}
		once, last := p.Left(end), often.Left(end)
		if once != last {
			t.Fatalf("What follows: Left(%d) = %d, asked once, and %d, asked often", end, once, last)
		}
		size := someSize(r, m)
		if a, b := p.When(end, size), often.When(end, size); a != b {
			t.Fatalf("What follows: When(%d, %d) = %d, asked once, and %d, asked often", end, size, a, b)
		}
		if once > -burst && once < burst {
			between++
		}
	}
	if pieces < 10000 || between < 1000 {
		t.Errorf("%d pieces, %d neither full nor at the least: too few", pieces, between)
	}
}

// What follows: one microsecond after the other comes to the same as all at once.
func TestMicrosecondByMicrosecond(t *testing.T) {
	for _, rate := range [][2]int64{{12000, 50000}, {1234, 777}, {7, 3}, {1, 1}, {1, 1000}, {99991, 100003}} {
		p := emptied(t, 12000, rate[0], rate[1])
		for now := range int64(5000) {
			q := emptied(t, 12000, rate[0], rate[1])
			lefts(t, "What follows: one after the other", p, now, min(5*rate[0]*now/(4*rate[1]), 12000))
			lefts(t, "What follows: all at once", q, now, min(5*rate[0]*now/(4*rate[1]), 12000))
		}
	}
}

// A send is what was spent, and what had flowed in up to then, be the bucket full or not.
type sending struct {
	size int64
	in   *big.Rat
}

// What follows: if each Spend comes only where When answers the clock, then from any moment to any later one what was spent is at most BURST and what flows in meanwhile.
func TestSpentIsAtMostBurstAndInflow(t *testing.T) {
	r := rand.New(rand.NewPCG(12, 4))
	var tight int
	for range 400 {
		burst := someBurst(r) >> r.IntN(4)
		p := made(t, max(burst, 2400))
		tight += spends(t, r, p, max(burst, 2400))
		if t.Failed() {
			return
		}
	}
	if tight < 100 {
		t.Errorf("the bound was met %d times within a datagram: too few", tight)
	}
}

// spends sends all that may go, with rates that change, and holds every span to the bound; it tells how many spans came near it.
func spends(t *testing.T, r *rand.Rand, p *Pacer, burst int64) (tight int) {
	var sent []sending
	clock, rate, in := int64(0), new(big.Rat), new(big.Rat)
	pass := func(d int64) {
		flow := new(big.Rat).Mul(rate, new(big.Rat).SetInt64(d))
		in = new(big.Rat).Add(in, flow)
		clock += d
	}
	for range 60 {
		switch r.IntN(8) {
		case 0:
			window, smooth := 1+r.Int64N(200000), 1+r.Int64N(100000)
			p.Set(clock, window, smooth)
			rate = big.NewRat(5*window, 4*smooth)
		case 1:
			pass(r.Int64N(20000))
		default:
			size := 1 + r.Int64N(burst/2)
			if at := p.When(clock, size); at < clock+1000000 {
				pass(at - clock)
				p.Spend(clock, size)
				sent = append(sent, sending{size, in})
			}
		}
	}
	for i := range sent {
		var sum int64
		for _, s := range sent[i:] {
			sum += s.size
			most := new(big.Rat).Sub(s.in, sent[i].in)
			most.Add(most, new(big.Rat).SetInt64(burst))
			spare := most.Sub(most, new(big.Rat).SetInt64(sum))
			if spare.Sign() < 0 {
				t.Errorf("What follows: %d were spent, more by %s than BURST %d and what flowed in", sum, spare.FloatString(3), burst)
				return tight
			}
			if spare.Cmp(big.NewRat(1200, 1)) < 0 {
				tight++
			}
		}
	}
	return tight
}

// Two that are told the same in turns with others answer the same (R4).
func TestAlikeAnswerAlike(t *testing.T) {
	r := rand.New(rand.NewPCG(12, 5))
	for range 300 {
		burst := someBurst(r)
		a, b, other, m := made(t, burst), made(t, burst), made(t, someBurst(r)), newReading(burst)
		for range 60 {
			s := someStep(r, m)
			m.take(s)
			first := play(a, s)
			play(other, someStep(r, m))
			if second := play(b, s); first != second || *a != *b {
				t.Fatalf("R4: %d and %+v, %d and %+v", first, *a, second, *b)
			}
		}
	}
}

// LEFT is never above BURST and never below -BURST, whatever is asked.
func TestLeftStaysWithinBurst(t *testing.T) {
	r := rand.New(rand.NewPCG(12, 6))
	for range 500 {
		burst := someBurst(r)
		p, m := made(t, burst), newReading(burst)
		for range 100 {
			s := step{call: "NWSL"[r.IntN(4)], now: anything(r), size: anything(r), window: anything(r), smooth: anything(r)}
			got, want := play(p, s), m.take(s)
			if left := p.Left(past); got != want || left > burst || left < -burst {
				t.Fatalf("P12.5: behind %+v of %d: %d, want %d; LEFT %d", s, burst, got, want, left)
			}
		}
	}
}
