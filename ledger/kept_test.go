package ledger

import (
	"math"
	"slices"
	"testing"

	"portage/api"
)

func TestKeptOfNone(t *testing.T) {
	l := made(t, 0)
	for _, step := range []func(){func() {}, func() { l.Add(bare(0, 0)) }, func() { l.Add(asking(1, 0)); l.Lose(1) }, func() { l.Drop() }} {
		step()
		if l.Kept() == nil {
			t.Fatal("P13.6: Kept answers nil")
		}
		tells(t, "P13.6: nothing is kept", slices.Collect(l.Kept()))
	}
}

func TestKeptLeftEarly(t *testing.T) {
	l, all := ten(t), []int64{10, 11, 13, 14, 15, 17, 18, 19}
	ahead, seq := look(l), l.Kept()
	for stop := 1; stop <= len(all)+1; stop++ {
		var got []api.Sent
		for s := range seq {
			got = append(got, s)
			if len(got) == stop {
				break
			}
		}
		tells(t, "P13.6: left early", got, all[:min(stop, len(all))]...)
		tells(t, "P13.6: gone over again", slices.Collect(seq), all...)
	}
	same(t, "P13.6: Kept", l, ahead)
}

func TestKeptWithinItself(t *testing.T) {
	l, all := ten(t), []int64{10, 11, 13, 14, 15, 17, 18, 19}
	seq := l.Kept()
	var outer, mid []api.Sent
	for s := range seq {
		outer = append(outer, s)
		mid = mid[:0]
		for s := range seq {
			mid = append(mid, s)
			if len(mid) == 3 {
				tells(t, "P13.6: within itself, innermost", slices.Collect(seq), all...)
			}
		}
		tells(t, "P13.6: within itself", mid, all...)
	}
	tells(t, "P13.6: around itself", outer, all...)
}

// What a range gives is what is kept when it begins, whatever becomes of the ledger meanwhile; the next range gives what is kept then.
func TestKeptWhileItChanges(t *testing.T) {
	all := []int64{10, 11, 13, 14, 15, 17, 18, 19}
	for _, c := range []struct {
		say    string
		change func(l *Ledger)
		then   []int64
	}{
		{"Add", func(l *Ledger) { l.Add(asking(20, 20)) }, append(slices.Clone(all), 20)},
		{"Ack of all", func(l *Ledger) { l.Ack(api.Run{Lo: 10, Hi: 19}) }, nil},
		{"Ack ahead of it", func(l *Ledger) { l.Ack(api.Run{Lo: 14, Hi: 18}) }, []int64{10, 11, 13, 19}},
		{"Lose of itself", func(l *Ledger) { l.Lose(10, 11, 13) }, []int64{14, 15, 17, 18, 19}},
		{"Drop", func(l *Ledger) { l.Drop() }, nil},
		{"all, and others", func(l *Ledger) { l.Lose(10, 11, 13, 14, 15, 17, 18, 19); addMany20(l) }, []int64{20, 21, 22, 23, 24, 25, 26, 27, 28, 29}},
	} {
		for at := range all {
			l := ten(t)
			seq := l.Kept()
			var got []api.Sent
			for s := range seq {
				if len(got) == at {
					c.change(l)
					tells(t, "P13.6: within the range, behind "+c.say, slices.Collect(seq), c.then...)
				}
				got = append(got, s)
			}
			tells(t, "P13.6: "+c.say+" meanwhile", got, all...)
			tells(t, "P13.6: behind "+c.say, slices.Collect(seq), c.then...)
		}
	}
}

// addMany20 adds 20 to 29.
func addMany20(l *Ledger) {
	for x := int64(20); x < 30; x++ {
		l.Add(asking(x, 20))
	}
}

// It is the range that counts, not the call of Kept.
func TestKeptBeginsWithTheRange(t *testing.T) {
	l := made(t, 0)
	seq := l.Kept()
	add(t, l, asking(0, 0), asking(1, 0))
	tells(t, "P13.6: what is kept when the range begins", slices.Collect(seq), 0, 1)
	l.Lose(0)
	tells(t, "P13.6: what is kept when the range begins", slices.Collect(seq), 1)
	l.Drop()
	tells(t, "P13.6: what is kept when the range begins", slices.Collect(seq))
}

func TestOldest(t *testing.T) {
	l, all := ten(t), []int64{10, 11, 13, 14, 15, 18, 19}
	ahead := look(l)
	for _, n := range []int{math.MinInt, -2, -1, 0} {
		tells(t, "P13.6: Oldest of a number below 1", l.Oldest(n))
	}
	for n := 1; n <= len(all); n++ {
		tells(t, "P13.6: Oldest", l.Oldest(n), all[:n]...)
	}
	for _, n := range []int{len(all) + 1, len(all) + 2, api.MaxSent, math.MaxInt32, math.MaxInt} {
		tells(t, "P13.6: Oldest of more than there are", l.Oldest(n), all...)
	}
	same(t, "P13.6: Oldest", l, ahead)
	ack(t, l, 10, 10, 13, 13)
	l.Lose(14)
	tells(t, "P13.6: Oldest of those that are kept", l.Oldest(2), 11, 15)
	ack(t, l, 10, 16, 18, 19)
	tells(t, "P13.6: Oldest where none is Eliciting", l.Oldest(2))
	if v := l.View(); v.Kept != 1 || v.Waiting != 0 {
		t.Errorf("P13.7: View() = %+v, want one that is padded", v)
	}
	add(t, l, padded(20, 20), asking(21, 20))
	tells(t, "P13.6: Oldest behind padded ones", l.Oldest(1), 21)
}
