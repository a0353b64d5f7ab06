package runs

import (
	"iter"
	"math"
	"slices"
	"testing"

	"portage/api"
)

// own is a type of its own over one of the kinds of numbers.
type own int64

// sp makes a list of spans of pairs of ends.
func sp[T api.Number](ends ...T) []api.Span[T] {
	var l []api.Span[T]
	for i := 0; i+1 < len(ends); i += 2 {
		l = append(l, api.Span[T]{Lo: ends[i], Hi: ends[i+1]})
	}
	return l
}

func set(ends ...int64) *Set[int64] { return Of(sp(ends...)...) }

func bounded(t *testing.T, most int, ends ...int64) *Set[int64] {
	t.Helper()
	s, err := New[int64](most)
	if s == nil || err != api.OK {
		t.Fatalf("P2.1: New(%d) = %v, %d", most, s, err)
	}
	for _, r := range sp(ends...) {
		s.Add(r.Lo, r.Hi)
	}
	return s
}

// want holds a set's runs against these.
func want[T api.Number](t *testing.T, what string, s *Set[T], ends ...T) {
	t.Helper()
	if s == nil {
		t.Errorf("%s: no set", what)
		return
	}
	l := sp(ends...)
	if got := s.Runs(); !slices.Equal(got, l) {
		t.Errorf("%s: runs %v, want %v", what, got, l)
	}
	if got := s.Len(); got != len(l) {
		t.Errorf("%s: Len %d, want %d", what, got, len(l))
	}
}

func same[T api.Number](t *testing.T, what string, got []api.Span[T], ends ...T) {
	t.Helper()
	if l := sp(ends...); !slices.Equal(got, l) {
		t.Errorf("%s: %v, want %v", what, got, l)
	}
}

func number(t *testing.T, what string, got, want uint64) {
	t.Helper()
	if got != want {
		t.Errorf("%s: %d, want %d", what, got, want)
	}
}

func TestExamples(t *testing.T) {
	s := bounded(t, 2)
	number(t, "Add(5, 7)", s.Add(5, 7), 3)
	want(t, "Add(5, 7)", s, 5, 7)
	number(t, "Add(9, 9)", s.Add(9, 9), 1)
	want(t, "Add(9, 9)", s, 5, 7, 9, 9)
	number(t, "Add(8, 8)", s.Add(8, 8), 1)
	want(t, "Add(8, 8)", s, 5, 9)
	number(t, "Add(6, 12)", s.Add(6, 12), 3)
	want(t, "Add(6, 12)", s, 5, 12)
	number(t, "Cut(7, 8)", s.Cut(7, 8), 2)
	want(t, "Cut(7, 8)", s, 5, 6, 9, 12)
	same(t, "Holes(4, 10)", s.Holes(4, 10), 4, 4, 7, 8)
	same(t, "Within(6, 10)", s.Within(6, 10), 6, 6, 9, 10)
	number(t, "Add(20, 20)", s.Add(20, 20), 1)
	want(t, "Add(20, 20)", s, 9, 12, 20, 20)
	number(t, "Add(1, 2)", s.Add(1, 2), 2)
	want(t, "Add(1, 2)", s, 9, 12, 20, 20)
	number(t, "Cut(10, 10)", s.Cut(10, 10), 1)
	want(t, "Cut(10, 10)", s, 11, 12, 20, 20)
	number(t, "Add(13, 3)", s.Add(13, 3), 0)
	want(t, "Add(13, 3)", s, 11, 12, 20, 20)
	number(t, "Count", s.Count(), 3)

	u := Of(api.Span[uint64]{Lo: 0, Hi: math.MaxUint64})
	number(t, "Count of all", u.Count(), math.MaxUint64)
	want(t, "all", u, 0, math.MaxUint64)
	number(t, "Cut(5, 5)", u.Cut(5, 5), 1)
	want(t, "all but 5", u, 0, 4, 6, math.MaxUint64)

	want(t, "Join(1-3, 4-5)", Join(set(1, 3), set(4, 5)), 1, 5)
	want(t, "Meet(1-3, 4-5)", Meet(set(1, 3), set(4, 5)))
	want(t, "Less(1-5, 2-3)", Less(set(1, 5), set(2, 3)), 1, 1, 4, 5)
}

func TestNew(t *testing.T) {
	for _, most := range []int{math.MinInt, -2, -1} {
		if s, err := New[int64](most); s != nil || err != api.ErrArg {
			t.Errorf("P2.1: New(%d) = %v, %d, want nil, ErrArg", most, s, err)
		}
		if s, err := New[uint64](most); s != nil || err != api.ErrArg {
			t.Errorf("P2.1: New(%d) = %v, %d, want nil, ErrArg", most, s, err)
		}
	}
	for _, most := range []int{0, 1, 2, 32, math.MaxInt} {
		s := bounded(t, most)
		want(t, "P2.1: New", s)
		number(t, "P2.1: Count", s.Count(), 0)
		for i := int64(0); i < 40; i++ {
			s.Add(2*i, 2*i)
		}
		runs := 40
		if most > 0 {
			runs = min(most, 40)
		}
		if s.Len() != runs || !s.Has(78) {
			t.Errorf("P2.1: of 40 runs with the bound %d: %d", most, s.Len())
		}
	}
}

func TestOf(t *testing.T) {
	want(t, "P2.1: Of()", Of[int64]())
	want(t, "P2.1: of nil", Of([]api.Run(nil)...))
	want(t, "P2.1: any order", set(20, 22, 5, 6, -3, -1, 9, 12), -3, -1, 5, 6, 9, 12, 20, 22)
	want(t, "P2.1: overlapping", set(5, 9, 1, 6, 8, 12, 20, 30, 22, 23, 20, 25), 1, 12, 20, 30)
	want(t, "P2.1: one in another, then behind it", set(1, 30, 2, 3, 31, 31), 1, 31)
	want(t, "P2.1: neighbours", set(4, 5, 1, 3, 6, 6), 1, 6)
	want(t, "P2.1: twice", set(4, 5, 4, 5, 4, 4), 4, 5)
	want(t, "P2.1: spans without a number", set(5, 4, 1, 1, 9, -9, 3, 3), 1, 1, 3, 3)
	want(t, "P2.1: a span without a number that starts within another", set(1, 5, 3, 2), 1, 5)
	want(t, "P2.1: nothing but such", set(5, 4, math.MaxInt64, math.MinInt64))
	s := Of[int64]()
	for i := int64(0); i < 1000; i++ {
		s.Add(2*i, 2*i)
	}
	if s.Len() != 1000 {
		t.Errorf("P2.1: Of has no bound: %d runs of 1000", s.Len())
	}
}

func TestAdd(t *testing.T) {
	for _, c := range []struct {
		lo, hi int64
		n      uint64
		runs   []int64
	}{
		{1, 3, 3, []int64{1, 3, 10, 12, 20, 25}},
		{1, 8, 8, []int64{1, 8, 10, 12, 20, 25}},
		{1, 9, 9, []int64{1, 12, 20, 25}},
		{1, 10, 9, []int64{1, 12, 20, 25}},
		{1, 12, 9, []int64{1, 12, 20, 25}},
		{1, 13, 10, []int64{1, 13, 20, 25}},
		{10, 10, 0, []int64{10, 12, 20, 25}},
		{11, 11, 0, []int64{10, 12, 20, 25}},
		{10, 12, 0, []int64{10, 12, 20, 25}},
		{12, 13, 1, []int64{10, 13, 20, 25}},
		{13, 13, 1, []int64{10, 13, 20, 25}},
		{14, 14, 1, []int64{10, 12, 14, 14, 20, 25}},
		{14, 18, 5, []int64{10, 12, 14, 18, 20, 25}},
		{14, 19, 6, []int64{10, 12, 14, 25}},
		{13, 18, 6, []int64{10, 18, 20, 25}},
		{13, 19, 7, []int64{10, 25}},
		{11, 22, 7, []int64{10, 25}},
		{5, 30, 17, []int64{5, 30}},
		{25, 26, 1, []int64{10, 12, 20, 26}},
		{26, 26, 1, []int64{10, 12, 20, 26}},
		{27, 28, 2, []int64{10, 12, 20, 25, 27, 28}},
		{math.MinInt64, math.MaxInt64, math.MaxUint64 - 8, []int64{math.MinInt64, math.MaxInt64}},
		{11, 10, 0, []int64{10, 12, 20, 25}},
		{13, 12, 0, []int64{10, 12, 20, 25}},
		{15, 14, 0, []int64{10, 12, 20, 25}},
		{30, 1, 0, []int64{10, 12, 20, 25}},
		{math.MaxInt64, math.MinInt64, 0, []int64{10, 12, 20, 25}},
	} {
		s := set(10, 12, 20, 25)
		if n := s.Add(c.lo, c.hi); n != c.n {
			t.Errorf("P2.2: Add(%d, %d) = %d, want %d", c.lo, c.hi, n, c.n)
		}
		want(t, "P2.2: Add", s, c.runs...)
		if n := s.Add(c.lo, c.hi); n != 0 {
			t.Errorf("P2.2: Add(%d, %d) again = %d, want 0", c.lo, c.hi, n)
		}
	}
}

func TestCut(t *testing.T) {
	for _, c := range []struct {
		lo, hi int64
		n      uint64
		runs   []int64
	}{
		{1, 9, 0, []int64{10, 12, 20, 25}},
		{1, 10, 1, []int64{11, 12, 20, 25}},
		{10, 10, 1, []int64{11, 12, 20, 25}},
		{11, 11, 1, []int64{10, 10, 12, 12, 20, 25}},
		{12, 12, 1, []int64{10, 11, 20, 25}},
		{12, 19, 1, []int64{10, 11, 20, 25}},
		{10, 12, 3, []int64{20, 25}},
		{9, 13, 3, []int64{20, 25}},
		{13, 19, 0, []int64{10, 12, 20, 25}},
		{13, 20, 1, []int64{10, 12, 21, 25}},
		{11, 22, 5, []int64{10, 10, 23, 25}},
		{10, 25, 9, nil},
		{21, 24, 4, []int64{10, 12, 20, 20, 25, 25}},
		{25, 30, 1, []int64{10, 12, 20, 24}},
		{26, 30, 0, []int64{10, 12, 20, 25}},
		{math.MinInt64, math.MaxInt64, 9, nil},
		{11, 10, 0, []int64{10, 12, 20, 25}},
		{12, 10, 0, []int64{10, 12, 20, 25}},
		{22, 11, 0, []int64{10, 12, 20, 25}},
		{30, 1, 0, []int64{10, 12, 20, 25}},
		{math.MaxInt64, math.MinInt64, 0, []int64{10, 12, 20, 25}},
	} {
		s := set(10, 12, 20, 25)
		if n := s.Cut(c.lo, c.hi); n != c.n {
			t.Errorf("P2.2: Cut(%d, %d) = %d, want %d", c.lo, c.hi, n, c.n)
		}
		want(t, "P2.2: Cut", s, c.runs...)
		if n := s.Cut(c.lo, c.hi); n != 0 {
			t.Errorf("P2.2: Cut(%d, %d) again = %d, want 0", c.lo, c.hi, n)
		}
	}
}

func TestBound(t *testing.T) {
	s := bounded(t, 3, 10, 19, 30, 39, 50, 59)
	want(t, "P2.2: at the bound", s, 10, 19, 30, 39, 50, 59)
	number(t, "P2.2: Add above it", s.Add(70, 71), 2)
	want(t, "P2.2: Add above it", s, 30, 39, 50, 59, 70, 71)
	number(t, "P2.2: Add between", s.Add(45, 45), 1)
	want(t, "P2.2: Add between", s, 45, 45, 50, 59, 70, 71)
	number(t, "P2.2: Add below", s.Add(1, 40), 40)
	want(t, "P2.2: Add below goes at once", s, 45, 45, 50, 59, 70, 71)
	number(t, "P2.2: Add below again", s.Add(1, 40), 40)
	number(t, "P2.2: Add that touches the lowest", s.Add(40, 44), 5)
	want(t, "P2.2: Add that touches the lowest", s, 40, 45, 50, 59, 70, 71)
	number(t, "P2.2: Cut within the highest", s.Cut(70, 70), 1)
	want(t, "P2.2: Cut that makes no run more", s, 40, 45, 50, 59, 71, 71)
	number(t, "P2.2: Cut within a run", s.Cut(52, 57), 6)
	want(t, "P2.2: the lowest goes by a Cut", s, 50, 51, 58, 59, 71, 71)
	number(t, "P2.2: Cut within the lowest", s.Cut(51, 58), 2)
	want(t, "P2.2: Cut that takes ends", s, 50, 50, 59, 59, 71, 71)
	number(t, "P2.2: Count", s.Count(), 3)

	low := bounded(t, 2, 1, 9, 20, 29)
	number(t, "P2.2: Cut within the lowest", low.Cut(4, 6), 3)
	want(t, "P2.2: the lower piece of the lowest goes", low, 7, 9, 20, 29)

	one := bounded(t, 1, 5, 9)
	number(t, "P2.2: the bound 1", one.Cut(7, 7), 1)
	want(t, "P2.2: the bound 1", one, 8, 9)
	number(t, "P2.2: the bound 1", one.Add(6, 6), 1)
	want(t, "P2.2: the bound 1", one, 8, 9)
	number(t, "P2.2: the bound 1", one.Add(11, 11), 1)
	want(t, "P2.2: the bound 1", one, 11, 11)
	number(t, "P2.2: the bound 1", one.Add(10, 10), 1)
	want(t, "P2.2: the bound 1", one, 10, 11)
}

func TestLooks(t *testing.T) {
	s := set(-5, -4, 0, 0, 7, 9)
	for x := int64(-8); x < 12; x++ {
		in := x == -5 || x == -4 || x == 0 || x >= 7 && x <= 9
		if s.Has(x) != in {
			t.Errorf("P2.3: Has(%d) = %v", x, !in)
		}
	}
	for _, x := range []int64{math.MinInt64, math.MaxInt64} {
		if s.Has(x) || Of[int64]().Has(x) {
			t.Errorf("P2.3: Has(%d)", x)
		}
	}
	number(t, "P2.3: Count", s.Count(), 6)
	want(t, "P2.3: Runs and Len", s, -5, -4, 0, 0, 7, 9)
	number(t, "P2.3: Count of none", Of[int64]().Count(), 0)
	if n := Of[own]().Len(); n != 0 {
		t.Errorf("P2.3: Len of none: %d", n)
	}
}

func gathered[T api.Number](seq iter.Seq[api.Span[T]]) []api.Span[T] {
	var l []api.Span[T]
	for r := range seq {
		l = append(l, r)
	}
	return l
}

func TestUpAndDown(t *testing.T) {
	s := set(1, 2, 4, 5, 7, 9)
	same(t, "P2.4: Up", gathered(s.Up()), 1, 2, 4, 5, 7, 9)
	same(t, "P2.4: Down", gathered(s.Down()), 7, 9, 4, 5, 1, 2)
	none := Of[int64]()
	if none.Up() == nil || none.Down() == nil || s.Up() == nil || s.Down() == nil {
		t.Error("P2.4: Up or Down is nil")
	}
	same(t, "P2.4: Up of none", gathered(none.Up()))
	same(t, "P2.4: Down of none", gathered(none.Down()))
}

func TestRangeIsWhatItBeginsWith(t *testing.T) {
	for _, c := range []struct {
		name string
		give func(*Set[int64]) iter.Seq[api.Run]
		ends []int64
	}{
		{"Up", (*Set[int64]).Up, []int64{1, 2, 4, 5, 7, 9}},
		{"Down", (*Set[int64]).Down, []int64{7, 9, 4, 5, 1, 2}},
	} {
		changes := []func(*Set[int64]){
			func(s *Set[int64]) { s.Add(0, 20) },
			func(s *Set[int64]) { s.Cut(-100, 100) },
			func(s *Set[int64]) { s.Cut(5, 7) },
			func(s *Set[int64]) { s.Add(-1, -1); s.Add(3, 3); s.Add(100, 100) },
			func(s *Set[int64]) { s.Cut(-100, 100); s.Add(50, 50); s.Add(52, 52); s.Add(54, 54) },
		}
		for _, change := range changes {
			s := set(1, 2, 4, 5, 7, 9)
			var got []api.Run
			for r := range c.give(s) {
				got = append(got, r)
				change(s)
			}
			same(t, "P2.4: changed in the loop, "+c.name, got, c.ends...)
			other := set(1, 2, 4, 5, 7, 9)
			change(other)
			change(other)
			if !slices.Equal(s.Runs(), other.Runs()) {
				t.Errorf("P2.4: the loop over %s kept a change off: %v", c.name, s.Runs())
			}
		}

		s := set(100, 100)
		seq := c.give(s)
		s.Cut(100, 100)
		same(t, "P2.4: the range begins behind a change, "+c.name, gathered(seq))
		s.Add(1, 2)
		s.Add(4, 5)
		s.Add(7, 9)
		same(t, "P2.4: and behind others, "+c.name, gathered(seq), c.ends...)
		same(t, "P2.4: ranged over again, "+c.name, gathered(seq), c.ends...)
		for range seq {
			break
		}
		same(t, "P2.4: again behind a range that was left early, "+c.name, gathered(seq), c.ends...)
		want(t, "P2.4: left early", s, 1, 2, 4, 5, 7, 9)
	}
}

func TestRangeWithinItself(t *testing.T) {
	s := set(1, 2, 4, 5)
	seq := s.Up()
	var l []int64
	for a := range seq {
		l = append(l, a.Lo)
		for b := range seq {
			l = append(l, b.Lo)
		}
		s.Add(7, 7)
	}
	if !slices.Equal(l, []int64{1, 1, 4, 4, 1, 4, 7}) {
		t.Errorf("P2.4: Up within itself: %v", l)
	}

	s = set(1, 2, 4, 5)
	seq = s.Down()
	l = nil
	for a := range seq {
		l = append(l, a.Lo)
		for b := range seq {
			l = append(l, b.Lo)
			s.Add(7, 7)
		}
	}
	if !slices.Equal(l, []int64{4, 4, 1, 1, 7, 4, 1}) {
		t.Errorf("P2.4: Down within itself: %v", l)
	}
}

func TestPulled(t *testing.T) {
	s := set(1, 2, 4, 5, 7, 9)
	next, stop := iter.Pull(s.Down())
	r, ok := next()
	s.Cut(0, 100)
	if second, more := next(); !ok || !more || r.Lo != 7 || second.Lo != 4 {
		t.Errorf("P2.4: %v, %v", r, second)
	}
	stop()
	if _, more := next(); more {
		t.Error("P2.4: it goes on behind its stop")
	}
}

func TestWithinAndHoles(t *testing.T) {
	for _, c := range []struct {
		lo, hi        int64
		within, holes []int64
	}{
		{1, 9, nil, []int64{1, 9}},
		{1, 10, []int64{10, 10}, []int64{1, 9}},
		{9, 9, nil, []int64{9, 9}},
		{10, 10, []int64{10, 10}, nil},
		{11, 11, []int64{11, 11}, nil},
		{12, 12, []int64{12, 12}, nil},
		{13, 13, nil, []int64{13, 13}},
		{10, 12, []int64{10, 12}, nil},
		{9, 13, []int64{10, 12}, []int64{9, 9, 13, 13}},
		{11, 20, []int64{11, 12, 20, 20}, []int64{13, 19}},
		{11, 40, []int64{11, 12, 20, 25, 30, 30}, []int64{13, 19, 26, 29, 31, 40}},
		{13, 19, nil, []int64{13, 19}},
		{31, 33, nil, []int64{31, 33}},
		{math.MinInt64, math.MaxInt64, []int64{10, 12, 20, 25, 30, 30}, []int64{math.MinInt64, 9, 13, 19, 26, 29, 31, math.MaxInt64}},
		{12, 11, nil, nil},
		{12, 10, nil, nil},
		{14, 13, nil, nil},
		{25, 10, nil, nil},
		{math.MaxInt64, math.MinInt64, nil, nil},
	} {
		s := set(10, 12, 20, 25, 30, 30)
		same(t, "P2.5: Within", s.Within(c.lo, c.hi), c.within...)
		same(t, "P2.5: Holes", s.Holes(c.lo, c.hi), c.holes...)
		want(t, "P2.5: the set behind it", s, 10, 12, 20, 25, 30, 30)
	}
	same(t, "P2.5: Within none", Of[int64]().Within(3, 4))
	same(t, "P2.5: Holes of none", Of[int64]().Holes(3, 4), 3, 4)
	same(t, "P2.5: Holes of none, lo above hi", Of[int64]().Holes(4, 3))
}

func TestClone(t *testing.T) {
	s := bounded(t, 2, 1, 3, 5, 7)
	c := s.Clone()
	want(t, "P2.6: Clone", c, 1, 3, 5, 7)
	c.Add(9, 9)
	want(t, "P2.6: a clone has the bound", c, 5, 7, 9, 9)
	want(t, "P2.6: the set of which a clone was changed", s, 1, 3, 5, 7)
	s.Cut(2, 2)
	want(t, "P2.6: a clone whose set was changed", c, 5, 7, 9, 9)
	same(t, "P2.6: Cut keeps to the bound", s.Runs(), 3, 3, 5, 7)
	twice := s.Clone().Clone()
	twice.Add(9, 9)
	want(t, "P2.6: a clone of a clone has the bound", twice, 5, 7, 9, 9)

	whole := set(1, 3, 5, 7)
	part := whole.Clone()
	part.Cut(1, 1)
	want(t, "P2.6: the set of which a clone lost a number", whole, 1, 3, 5, 7)
	whole.Cut(7, 7)
	want(t, "P2.6: a clone whose set lost a number", part, 2, 3, 5, 7)

	free := set(1, 1).Clone()
	for i := int64(0); i < 100; i++ {
		free.Add(2*i, 2*i)
	}
	if free.Len() != 99 {
		t.Errorf("P2.6: a clone of a set without a bound: %d runs", free.Len())
	}
	var none *Set[int64]
	want(t, "P2.6: a clone of a nil set", none.Clone())
}

func TestThreeOfTwo(t *testing.T) {
	for _, c := range []struct {
		a, b, join, meet, less []int64
	}{
		{nil, nil, nil, nil, nil},
		{[]int64{1, 5}, nil, []int64{1, 5}, nil, []int64{1, 5}},
		{nil, []int64{1, 5}, []int64{1, 5}, nil, nil},
		{[]int64{1, 5}, []int64{1, 5}, []int64{1, 5}, []int64{1, 5}, nil},
		{[]int64{1, 5}, []int64{6, 9}, []int64{1, 9}, nil, []int64{1, 5}},
		{[]int64{6, 9}, []int64{1, 5}, []int64{1, 9}, nil, []int64{6, 9}},
		{[]int64{1, 5}, []int64{7, 9}, []int64{1, 5, 7, 9}, nil, []int64{1, 5}},
		{[]int64{1, 5}, []int64{5, 9}, []int64{1, 9}, []int64{5, 5}, []int64{1, 4}},
		{[]int64{5, 9}, []int64{1, 5}, []int64{1, 9}, []int64{5, 5}, []int64{6, 9}},
		{[]int64{1, 9}, []int64{2, 3, 5, 6}, []int64{1, 9}, []int64{2, 3, 5, 6}, []int64{1, 1, 4, 4, 7, 9}},
		{[]int64{2, 3, 5, 6}, []int64{1, 9}, []int64{1, 9}, []int64{2, 3, 5, 6}, nil},
		{[]int64{1, 3, 7, 9, 20, 20}, []int64{3, 8, 10, 19}, []int64{1, 20}, []int64{3, 3, 7, 8}, []int64{1, 2, 9, 9, 20, 20}},
		{[]int64{1, 1, 3, 3, 5, 5}, []int64{2, 2, 4, 4}, []int64{1, 5}, nil, []int64{1, 1, 3, 3, 5, 5}},
	} {
		a, b := set(c.a...), set(c.b...)
		want(t, "P2.6: Join", Join(a, b), c.join...)
		want(t, "P2.6: Join turned round", Join(b, a), c.join...)
		want(t, "P2.6: Meet", Meet(a, b), c.meet...)
		want(t, "P2.6: Meet turned round", Meet(b, a), c.meet...)
		want(t, "P2.6: Less", Less(a, b), c.less...)
		want(t, "P2.6: a behind it", a, c.a...)
		want(t, "P2.6: b behind it", b, c.b...)
	}
}

func TestThreeOfOne(t *testing.T) {
	a := set(1, 3, 7, 9)
	j, m, l := Join(a, a), Meet(a, a), Less(a, a)
	want(t, "P2.6: Join(a, a)", j, 1, 3, 7, 9)
	want(t, "P2.6: Meet(a, a)", m, 1, 3, 7, 9)
	want(t, "P2.6: Less(a, a)", l)
	j.Add(4, 6)
	m.Cut(2, 8)
	l.Add(0, 100)
	want(t, "P2.6: a behind changes of what was made of it", a, 1, 3, 7, 9)
	a.Cut(0, 100)
	want(t, "P2.6: Join behind a change of a", j, 1, 9)
	want(t, "P2.6: Meet behind a change of a", m, 1, 1, 9, 9)
	want(t, "P2.6: Less behind a change of a", l, 0, 100)
}

func TestThreeHaveNoBound(t *testing.T) {
	a, b := bounded(t, 2, 1, 1, 5, 5), bounded(t, 1, 3, 3)
	j := Join(a, b)
	want(t, "P2.6: Join of sets with bounds", j, 1, 1, 3, 3, 5, 5)
	wide := bounded(t, 1, 0, 9)
	l := Less(wide, a)
	want(t, "P2.6: Less of a set with a bound", l, 0, 0, 2, 4, 6, 9)
	m := Meet(wide, a)
	want(t, "P2.6: Meet of a set with a bound", m, 1, 1, 5, 5)
	for _, s := range []*Set[int64]{j, l, m, Join(nil, b), Meet(b, b), Less(b, nil)} {
		for i := int64(10); i < 20; i++ {
			s.Add(2*i, 2*i)
		}
		if s.Len() < 10 {
			t.Errorf("P2.6: it has a bound: %v", s.Runs())
		}
	}
}

func TestNilCountsAsEmpty(t *testing.T) {
	a := set(1, 3, 7, 9)
	want(t, "P2.6: Join(a, nil)", Join(a, nil), 1, 3, 7, 9)
	want(t, "P2.6: Join(nil, a)", Join(nil, a), 1, 3, 7, 9)
	want(t, "P2.6: Meet(a, nil)", Meet(a, nil))
	want(t, "P2.6: Meet(nil, a)", Meet(nil, a))
	want(t, "P2.6: Less(a, nil)", Less(a, nil), 1, 3, 7, 9)
	want(t, "P2.6: Less(nil, a)", Less(nil, a))
	want(t, "P2.6: Join(nil, nil)", Join[uint64](nil, nil))
	want(t, "P2.6: Meet(nil, nil)", Meet[int](nil, nil))
	want(t, "P2.6: Less(nil, nil)", Less[own](nil, nil))
	var none *Set[int64]
	if none.Add(1, 2) != 0 || none.Cut(1, 2) != 0 || none.Has(1) || none.Len() != 0 || none.Count() != 0 {
		t.Error("P2.6: a nil set holds something")
	}
	same(t, "P2.6: a nil set", none.Runs())
	same(t, "P2.6: Holes of a nil set", none.Holes(1, 2), 1, 2)
	same(t, "P2.6: Within a nil set", none.Within(1, 2))
	same(t, "P2.6: Up of a nil set", gathered(none.Up()))
	same(t, "P2.6: Down of a nil set", gathered(none.Down()))
}

// checkEnds holds sets at both ends of a type to P2.7.
func checkEnds[T api.Number](t *testing.T, least, most T) {
	t.Helper()
	s := Of(sp(least, least, most, most)...)
	want(t, "P2.7: the ends don't touch", s, least, least, most, most)
	number(t, "P2.7: Count", s.Count(), 2)
	if !s.Has(least) || !s.Has(most) || s.Has(least+1) || s.Has(most-1) {
		t.Error("P2.7: Has at the ends")
	}
	same(t, "P2.7: Holes", s.Holes(least, most), least+1, most-1)
	same(t, "P2.7: Holes from the least on", s.Holes(least, least+1), least+1, least+1)
	same(t, "P2.7: Holes to the greatest", s.Holes(most-1, most), most-1, most-1)
	same(t, "P2.7: Within", s.Within(least, most), least, least, most, most)
	number(t, "P2.7: lo above hi", s.Add(most, least), 0)
	number(t, "P2.7: lo above hi", s.Cut(most, least), 0)
	number(t, "P2.7: again", s.Add(least, least), 0)
	number(t, "P2.7: again", s.Add(most, most), 0)
	number(t, "P2.7: Add beside the ends", s.Add(least+1, least+1)+s.Add(most-1, most-1), 2)
	want(t, "P2.7: Add beside the ends", s, least, least+1, most-1, most)
	number(t, "P2.7: Cut the ends", s.Cut(least, least)+s.Cut(most, most), 2)
	want(t, "P2.7: Cut the ends", s, least+1, least+1, most-1, most-1)
	number(t, "P2.7: Add the ends", s.Add(least, least)+s.Add(most, most), 2)
	want(t, "P2.7: Add the ends", s, least, least+1, most-1, most)
	number(t, "P2.7: fill what lies between", s.Add(least+2, most-2), math.MaxUint64-3)
	want(t, "P2.7: all", s, least, most)
	checkAll(t, s, least, most)
}

// checkAll takes a set of all numbers of a type.
func checkAll[T api.Number](t *testing.T, s *Set[T], least, most T) {
	t.Helper()
	number(t, "P2.3: Count of all", s.Count(), math.MaxUint64)
	number(t, "P2.2: Add to all", s.Add(least, most), 0)
	same(t, "P2.5: Holes of all", s.Holes(least, most))
	same(t, "P2.5: Within all", s.Within(least, most), least, most)
	want(t, "P2.6: Join of all", Join(s, s), least, most)
	want(t, "P2.6: Meet of all", Meet(s, s), least, most)
	want(t, "P2.6: Less of all", Less(s, s))
	want(t, "P2.6: all less none", Less(s, nil), least, most)
	number(t, "P2.2: Cut one end", s.Cut(most, most), 1)
	number(t, "P2.3: Count of all but one", s.Count(), math.MaxUint64)
	number(t, "P2.2: Cut the other", s.Cut(least, least), 1)
	number(t, "P2.3: Count of all but two", s.Count(), math.MaxUint64-1)
	want(t, "P2.2: all but two", s, least+1, most-1)
	number(t, "P2.2: Cut all", s.Cut(least, most), math.MaxUint64-1)
	want(t, "P2.2: Cut all", s)
	number(t, "P2.2: Add all", s.Add(least, most), math.MaxUint64)
	number(t, "P2.2: Cut all", s.Cut(least, most), math.MaxUint64)
	number(t, "P2.2: Add one", s.Add(5, 5), 1)
	number(t, "P2.2: Add all to one", s.Add(least, most), math.MaxUint64)
	want(t, "P2.2: Add all to one", s, least, most)
	number(t, "P2.2: Cut one of all", s.Cut(5, 5), 1)
	number(t, "P2.2: Cut all that is left", s.Cut(least, most), math.MaxUint64)
}

func TestEnds(t *testing.T) {
	checkEnds[int64](t, math.MinInt64, math.MaxInt64)
	checkEnds[uint64](t, 0, math.MaxUint64)
	checkEnds[own](t, math.MinInt64, math.MaxInt64)
	if math.MaxInt == math.MaxInt64 {
		least := math.MinInt
		checkEnds(t, least, math.MaxInt)
	}
}

func TestEndsWithBound(t *testing.T) {
	s, _ := New[uint64](1)
	number(t, "P2.7: Add all", s.Add(0, math.MaxUint64), math.MaxUint64)
	number(t, "P2.7: Cut one", s.Cut(math.MaxUint64-1, math.MaxUint64-1), 1)
	want(t, "P2.7: the lowest goes", s, math.MaxUint64, math.MaxUint64)
	number(t, "P2.7: Add at the other end", s.Add(0, 0), 1)
	want(t, "P2.7: it goes at once", s, math.MaxUint64, math.MaxUint64)
}

func TestAnswersAreNewMemory(t *testing.T) {
	s := set(1, 2, 4, 5, 7, 9)
	for _, ask := range []func() []api.Run{
		s.Runs,
		func() []api.Run { return s.Within(1, 9) },
		func() []api.Run { return s.Within(2, 4) },
		func() []api.Run { return s.Within(3, 3) },
		func() []api.Run { return s.Holes(0, 20) },
	} {
		first, second := ask(), ask()
		kept := slices.Clone(second)
		first = first[:cap(first)]
		for i := range first {
			first[i] = api.Run{Lo: 77, Hi: 78}
		}
		if !slices.Equal(second, kept) {
			t.Errorf("R3: two answers share memory: %v", second)
		}
		want(t, "R3: an answer was changed", s, 1, 2, 4, 5, 7, 9)
	}
	kept := s.Runs()
	s.Add(0, 3)
	s.Cut(8, 8)
	same(t, "R3: an answer behind a change of the set", kept, 1, 2, 4, 5, 7, 9)
}

func TestOfKeepsNothing(t *testing.T) {
	room := sp[int64](9, 9, 5, 6, 1, 7, 3, 2, 40, 41, 50, 51)
	kept := slices.Clone(room)
	l := room[:4]
	s := Of(l...)
	s.Add(20, 20)
	s.Add(22, 22)
	s.Add(24, 24)
	if !slices.Equal(room, kept) {
		t.Errorf("R3: Of changed what it was handed: %v", room)
	}
	for i := range room {
		room[i] = api.Run{Lo: 77, Hi: 78}
	}
	want(t, "R3: what was handed in was changed", s, 1, 7, 9, 9, 20, 20, 22, 22, 24, 24)
}

func TestOrderOfAdds(t *testing.T) {
	l := sp[int64](1, 2, 3, 3, 8, 12, 10, 15, 17, 17, 5, 5)
	sorted := Of(l...)
	x := uint64(7)
	for range 200 {
		s := bounded(t, 0)
		sum := uint64(0)
		for _, i := range mixed(len(l), &x) {
			sum += s.Add(l[i].Lo, l[i].Hi)
		}
		want(t, "What follows: the order of Adds", s, 1, 3, 5, 5, 8, 15, 17, 17)
		number(t, "What follows: the answers of Adds", sum, 13)
	}
	want(t, "What follows: Of", sorted, 1, 3, 5, 5, 8, 15, 17, 17)
}

// draw gives the next of a row of numbers below n that looks strewn.
func draw(x *uint64, n int) int {
	*x = *x*6364136223846793005 + 1442695040888963407
	return int(*x >> 33 % uint64(n))
}

func mixed(n int, x *uint64) []int {
	l := make([]int, n)
	for i := range l {
		l[i] = i
	}
	for i := n - 1; i > 0; i-- {
		j := draw(x, i+1)
		l[i], l[j] = l[j], l[i]
	}
	return l
}

const modelWide = 14

// model is the plainest form of a set of the numbers from base on: for each whether it is in.
type model[T api.Number] struct {
	base T
	in   [modelWide]bool
}

// spans tells the spans of numbers from place lo to place hi that are in, or those that are not.
func (m *model[T]) spans(lo, hi int, in bool) []api.Span[T] {
	var l []api.Span[T]
	for i := lo; i <= hi; i++ {
		x := m.base + T(i)
		switch {
		case m.in[i] != in:
		case i > lo && m.in[i-1] == in:
			l[len(l)-1].Hi = x
		default:
			l = append(l, api.Span[T]{Lo: x, Hi: x})
		}
	}
	return l
}

// put sets numbers in or out, lets the lowest runs go that are more than most, and tells how many changed at first.
func (m *model[T]) put(lo, hi, most int, in bool) uint64 {
	n := uint64(0)
	for i := lo; i <= hi; i++ {
		if m.in[i] != in {
			m.in[i] = in
			n++
		}
	}
	for most > 0 && len(m.spans(0, modelWide-1, true)) > most {
		gone := m.spans(0, modelWide-1, true)[0]
		for i := range m.in {
			if x := m.base + T(i); x >= gone.Lo && x <= gone.Hi {
				m.in[i] = false
			}
		}
	}
	return n
}

// checkModel plays strewn calls on a set and on its model, with the numbers from base on.
func checkModel[T api.Number](t *testing.T, base T, most int, x *uint64) {
	t.Helper()
	s, _ := New[T](most)
	m := model[T]{base: base}
	sum := uint64(0)
	for range 60 {
		lo, hi := draw(x, modelWide), draw(x, modelWide)
		a, b := base+T(lo), base+T(hi)
		cut := draw(x, 3) == 0
		wanted := m.put(lo, hi, most, !cut)
		var n uint64
		if cut {
			n = s.Cut(a, b)
			sum -= n
		} else {
			n = s.Add(a, b)
			sum += n
		}
		number(t, "P2.2: Add or Cut", n, wanted)
		checkLike(t, s, &m)
		if most == 0 {
			number(t, "What follows: the answers add up to Count", sum, s.Count())
		}
		if t.Failed() {
			t.Fatalf("from %v on, bound %d: %v to %v, cut %v", base, most, a, b, cut)
		}
	}
}

// checkLike holds every look at a set against its model.
func checkLike[T api.Number](t *testing.T, s *Set[T], m *model[T]) {
	t.Helper()
	runs := m.spans(0, modelWide-1, true)
	if got := s.Runs(); !slices.Equal(got, runs) || s.Len() != len(runs) {
		t.Errorf("P2.3: Runs %v, Len %d, want %v", got, s.Len(), runs)
	}
	if got := gathered(s.Up()); !slices.Equal(got, runs) {
		t.Errorf("P2.4: Up %v, want %v", got, runs)
	}
	n := uint64(0)
	for i, in := range m.in {
		if in {
			n++
		}
		if s.Has(m.base+T(i)) != in {
			t.Errorf("P2.3: Has(%v) = %v", m.base+T(i), !in)
		}
	}
	number(t, "P2.3: Count", s.Count(), n)
	for lo := range modelWide {
		for hi := range modelWide {
			a, b := m.base+T(lo), m.base+T(hi)
			if got, l := s.Within(a, b), m.spans(lo, hi, true); !slices.Equal(got, l) {
				t.Errorf("P2.5: Within(%v, %v) = %v, want %v", a, b, got, l)
			}
			if got, l := s.Holes(a, b), m.spans(lo, hi, false); !slices.Equal(got, l) {
				t.Errorf("P2.5: Holes(%v, %v) = %v, want %v", a, b, got, l)
			}
		}
	}
	slices.Reverse(runs)
	if got := gathered(s.Down()); !slices.Equal(got, runs) {
		t.Errorf("P2.4: Down %v, want %v", got, runs)
	}
}

func checkModels[T api.Number](t *testing.T, bases ...T) {
	t.Helper()
	x := uint64(3)
	for _, base := range bases {
		for most := range 5 {
			for range 8 {
				checkModel(t, base, most, &x)
			}
		}
	}
}

func TestLikeItsModel(t *testing.T) {
	checkModels[int64](t, math.MinInt64, -7, 1000, math.MaxInt64-modelWide+1)
	checkModels[uint64](t, 0, 1<<63-7, math.MaxUint64-modelWide+1)
	checkModels(t, math.MinInt, -7, math.MaxInt-modelWide+1)
	checkModels[own](t, math.MinInt64, -7, math.MaxInt64-modelWide+1)
}

// TestTwoLikeTheirModels holds what is made of two sets, at both ends of a type, against what is made of their models.
func TestTwoLikeTheirModels(t *testing.T) {
	x := uint64(5)
	for _, base := range []int64{math.MinInt64, -7, math.MaxInt64 - modelWide + 1} {
		for range 400 {
			a, b := strewn(base, &x), strewn(base, &x)
			join, meet, less := a, a, a
			for i := range modelWide {
				join.in[i] = a.in[i] || b.in[i]
				meet.in[i] = a.in[i] && b.in[i]
				less.in[i] = a.in[i] && !b.in[i]
			}
			p, q := a.set(), b.set()
			checkLike(t, Join(p, q), &join)
			checkLike(t, Meet(p, q), &meet)
			checkLike(t, Less(p, q), &less)
			checkLike(t, p, &a)
			checkLike(t, q, &b)
			if t.Failed() {
				t.Fatalf("P2.6: %v and %v", a, b)
			}
		}
	}
}

func strewn(base int64, x *uint64) model[int64] {
	m := model[int64]{base: base}
	for i := range m.in {
		m.in[i] = draw(x, 2) == 0
	}
	return m
}

func (m *model[T]) set() *Set[T] { return Of(m.spans(0, modelWide-1, true)...) }

func TestManyRuns(t *testing.T) {
	const n = 20000
	s := Of[int64]()
	for i := int64(n - 1); i >= 0; i-- {
		s.Add(3*i, 3*i+1)
	}
	if s.Len() != n || s.Count() != 2*n {
		t.Fatalf("P2.3: %d runs, %d numbers", s.Len(), s.Count())
	}
	holes := Less(set(0, 3*n-1), s)
	if holes.Len() != n || Meet(s, holes).Len() != 0 {
		t.Errorf("P2.6: %d holes", holes.Len())
	}
	want(t, "P2.6: Join of what is in and what is not", Join(s, holes), 0, 3*n-1)
	number(t, "P2.2: Cut of many runs", s.Cut(1, 3*n-3), 2*n-2)
	want(t, "P2.2: Cut of many runs", s, 0, 0, 3*n-2, 3*n-2)
}
