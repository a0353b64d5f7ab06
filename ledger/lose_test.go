package ledger

import (
	"math"
	"slices"
	"testing"

	"portage/api"
)

func TestLose(t *testing.T) {
	for _, c := range []struct {
		say     string
		numbers []int64
		want    []int64
	}{
		{"nothing", nil, nil},
		{"one", []int64{14}, []int64{14}},
		{"the first", []int64{10}, []int64{10}},
		{"the last", []int64{19}, []int64{19}},
		{"one that is padded", []int64{17}, []int64{17}},
		{"one that is bare", []int64{12}, nil},
		{"the same twice", []int64{13, 13}, []int64{13}},
		{"the same twice, apart", []int64{13, 18, 13}, []int64{13, 18}},
		{"falling", []int64{19, 14, 11, 10}, []int64{10, 11, 14, 19}},
		{"rising", []int64{10, 11, 14, 19}, []int64{10, 11, 14, 19}},
		{"in no order", []int64{14, 10, 19, 11}, []int64{10, 11, 14, 19}},
		{"never sent", []int64{9, 20, 0, -1, 5000, math.MinInt64, math.MaxInt64}, nil},
		{"never sent, among others", []int64{20, 19, 9, 10, math.MaxInt64}, []int64{10, 19}},
		{"all and more", []int64{21, 20, 19, 18, 17, 16, 15, 14, 13, 12, 11, 10, 9, 8}, []int64{10, 11, 13, 14, 15, 17, 18, 19}},
	} {
		l := ten(t)
		tells(t, "P13.5: "+c.say, l.Lose(c.numbers...), c.want...)
		rest := slices.DeleteFunc([]int64{10, 11, 13, 14, 15, 17, 18, 19}, func(x int64) bool { return slices.Contains(c.want, x) })
		tells(t, "P13.5: kept still, "+c.say, slices.Collect(l.Kept()), rest...)
		if v := l.View(); v.Kept != len(rest) || v.Largest != -1 || v.Next != 20 || v.Last != 19 || !v.Open {
			t.Errorf("P13.5: %s: View() = %+v", c.say, v)
		}
		told(t, "P13.5: nothing is acknowledged, "+c.say, l, 0, 5000, false)
		tells(t, "P13.5: each is told once, "+c.say, l.Lose(c.numbers...))
		tells(t, "P13.5: the rest, "+c.say, l.Drop(), rest...)
	}
}

func TestLoseOfWhatIsGone(t *testing.T) {
	l := ten(t)
	ack(t, l, 10, 11)
	tells(t, "P13.5: acknowledged ahead", l.Lose(10, 11, 13), 13)
	tells(t, "P13.5: lost ahead", l.Lose(13, 14), 14)
	l.Drop()
	ahead := look(l)
	tells(t, "P13.5: dropped ahead", l.Lose(15, 17))
	tells(t, "P13.5: nothing, behind Drop", l.Lose())
	same(t, "P13.5: Lose behind Drop", l, ahead)
}

func TestDrop(t *testing.T) {
	l := ten(t)
	ack(t, l, 14, 15)
	l.Lose(10)
	tells(t, "P13.5: all that was kept", l.Drop(), 11, 13, 17, 18, 19)
	want := api.Space{Next: 20, Largest: 15, Last: 19, Loss: -1}
	views(t, "P13.7: dropped", l, want)
	nexts(t, "Errors: dropped", l, 0, api.ErrOver)
	tells(t, "P13.5: nothing is kept then", slices.Collect(l.Kept()))
	tells(t, "P13.5: nothing is kept then", l.Oldest(5))
	tells(t, "P13.5: twice", l.Drop())
	views(t, "P13.7: dropped twice", l, want)
	refuses(t, "dropped", l, asking(20, 30), api.ErrOver)
	refuses(t, "dropped, and all is wrong", l, api.Sent{Number: -1, Time: -1, Size: -1, Eliciting: true}, api.ErrOver)
	denies(t, "dropped", l, api.ErrOver, api.Run{Lo: 11, Hi: 11})
	denies(t, "dropped, and it is wrong", l, api.ErrOver, api.Run{Lo: 5, Hi: 4})
	views(t, "P13.7: and it stays so", l, want)
}

func TestDropOfNothing(t *testing.T) {
	l := made(t, 9)
	tells(t, "P13.5: nothing was sent", l.Drop())
	views(t, "P13.7: nothing was sent", l, api.Space{Next: 9, Largest: -1, Last: -1, Loss: -1})
	nexts(t, "Errors: nothing was sent", l, 0, api.ErrOver)
	refuses(t, "nothing was sent", l, asking(9, 0), api.ErrOver)
}

// full is one that keeps as many packets as may be, the even numbers up to 2 MaxSent - 2; the odd ones are bare.
func full(t *testing.T) *Ledger {
	t.Helper()
	l := made(t, 0)
	for x := int64(0); x < 2*api.MaxSent; x += 2 {
		add(t, l, asking(x, x), bare(x+1, x))
	}
	views(t, "P13.3: MaxSent are kept", l, api.Space{Open: true, Next: 2 * api.MaxSent, Largest: -1, Last: 2*api.MaxSent - 2, Loss: -1, Flight: 100 * api.MaxSent, Kept: api.MaxSent, Waiting: api.MaxSent})
	return l
}

func TestForgotten(t *testing.T) {
	l, time := full(t), int64(5000)
	for i := range int64(2 * api.MaxSent) {
		x := 2*api.MaxSent + i
		add(t, l, bare(x+i, time))
		gone, err := l.Add(padded(x+i+1, time))
		want := 2 * i
		if i >= api.MaxSent {
			want = 2*api.MaxSent + 2*(i-api.MaxSent) + 1
		}
		if tells(t, "P13.3: the lowest is forgotten", gone, want); err != api.OK {
			t.Fatalf("P13.3: one more: %d", err)
		}
		left := max(api.MaxSent-1-i, 0)
		views(t, "P13.3: one more", l, api.Space{Open: true, Next: x + i + 2, Largest: -1, Last: 2*api.MaxSent - 2, Loss: -1,
			Flight: 100*left + 30*(api.MaxSent-left), Kept: api.MaxSent, Waiting: int(left)})
		if t.Failed() {
			return
		}
	}
}

func TestRoomAgain(t *testing.T) {
	l := full(t)
	ack(t, l, 4, 4)
	add(t, l, asking(2*api.MaxSent, 6000))
	l.Lose(0)
	add(t, l, asking(2*api.MaxSent+1, 6000))
	gone, err := l.Add(asking(2*api.MaxSent+2, 6000))
	if tells(t, "P13.3: the lowest of those that are kept", gone, 2); err != api.OK {
		t.Errorf("P13.3: Add answers %d", err)
	}
	gone, _ = l.Add(asking(2*api.MaxSent+3, 6000))
	tells(t, "P13.3: the next one, as 4 is acknowledged", gone, 6)
	tells(t, "P13.5: what is forgotten is lost no more", l.Lose(0, 2, 4, 6, 8), 8)
}

func TestRefusedAddForgetsNothing(t *testing.T) {
	l := full(t)
	refuses(t, "full, a wrong number", l, asking(0, 5000), api.ErrLedgerOrder)
	refuses(t, "full, a wrong Size", l, api.Sent{Number: 2 * api.MaxSent, Time: 5000, Size: -1, Counted: true}, api.ErrArg)
	refuses(t, "full, a Time that falls", l, asking(2*api.MaxSent, 0), api.ErrLedgerOrder)
}
