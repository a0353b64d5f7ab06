package road

import (
	"fmt"
	"math/rand/v2"
	"slices"
	"testing"

	"portage/api"
)

// A ledger tells of a play what was put and what became of it: by number the bytes, and how many of them there are in all.
type ledger struct {
	root  map[int]int    // of each number: from which one that was put it comes
	put   map[int]string // of those that were put
	times map[int]int    // of those that were put: once for itself, and once for each double
}

// W4: where nothing is lost, each that was put is taken once for itself and once for each double of it, or of one doubled from it, byte for byte, none ahead of its time.
func TestTakenIsWhatWasPut(t *testing.T) {
	for seed := range uint64(60) {
		rng := rand.New(rand.NewPCG(seed, 221))
		r := made(t, 0, rng.Int64N(100))
		w := ledger{map[int]int{}, map[int]string{}, map[int]int{}}
		at := map[int]int64{}
		taken := map[int]int{}
		clock, last := int64(0), -1
		for i := range 500 {
			clock += rng.Int64N(10)
			switch rng.IntN(4) {
			case 0:
				text := fmt.Sprint("datagram ", i)
				id, err := r.Put(clock, i%2, []byte(text), i%3)
				is(t, "W1: Put", err, api.OK)
				w.root[id], w.put[id], w.times[id] = id, text, 1
				at[id], last = clock+r.span, id
			case 1:
				when := max(clock-20+rng.Int64N(100), 0)
				if other, err := r.Double(last, when); err == api.OK {
					w.root[other] = w.root[last]
					w.times[w.root[last]]++
					at[other], last = when, other
				}
			case 2:
				when := max(clock-20+rng.Int64N(200), 0)
				if r.Delay(last, when) == api.OK {
					at[last] = when
				}
			default:
				count(t, r.Take(clock), clock, w, at, taken)
			}
		}
		count(t, r.Take(api.MaxTime), api.MaxTime, w, at, taken)
		for id, n := range w.times {
			if taken[id] != n {
				t.Errorf("W4: seed %d: number %d is taken %d times, want %d", seed, id, taken[id], n)
			}
		}
	}
}

// count looks at what was taken, and counts it to what was put.
func count(t *testing.T, l []api.Flight, clock int64, w ledger, at map[int]int64, taken map[int]int) {
	t.Helper()
	for _, f := range l {
		root, known := w.root[f.ID]
		if !known || string(f.Data) != w.put[root] {
			t.Errorf("W4: %s is taken: %q was put", one(f), w.put[root])
		}
		if f.At != at[f.ID] || f.At > clock {
			t.Errorf("W4: %s, which arrives at %d, is taken at %d", one(f), at[f.ID], clock)
		}
		taken[root]++
		delete(w.root, f.ID)
	}
}

// W4: in how many steps time goes on doesn't matter.
func TestStepsDoNotMatter(t *testing.T) {
	for seed := range uint64(200) {
		played := func() *Road {
			r := made(t, 0, 30)
			s := newSource(seed, r, 50, false)
			m := newReading(0, 30)
			for range 40 {
				s.step(m)
			}
			return r
		}
		once, twice, often := played(), played(), played()
		rng := rand.New(rand.NewPCG(seed, 222))
		a := once.now - 20 + rng.Int64N(80)
		b := a + rng.Int64N(60)
		want := tell(once.Take(b))
		if got := tell(append(twice.Take(a), twice.Take(b)...)); got != want {
			t.Fatalf("W4: seed %d: Take(%d), then Take(%d) = %s, want %s", seed, a, b, got, want)
		}
		var l []api.Flight
		for now := a; now <= b; now++ {
			l = append(l, often.Take(now)...)
		}
		if got := tell(l); got != want {
			t.Fatalf("W4: seed %d: from %d to %d step by step: %s, want %s", seed, a, b, got, want)
		}
		left := tell(slices.Collect(once.All()))
		if tell(slices.Collect(twice.All())) != left || tell(slices.Collect(often.All())) != left {
			t.Fatalf("W4: seed %d: what is left hangs on the steps", seed)
		}
	}
}
