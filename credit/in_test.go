package credit

import (
	"math"
	"testing"

	"portage/api"
)

// come is an In of which so much was taken, and so much of that consumed.
func come(t *testing.T, window, taken, consumed int64) *In {
	t.Helper()
	i := madeIn(t, window)
	takes(t, "P17.7", i, taken, api.OK)
	consumes(t, "P17.8", i, consumed, api.OK)
	return i
}

// half is the least rise that is told, counted up by hand: the least that is no less than what is left of the window without it.
func half(window int64) int64 {
	n := int64(0)
	for n < window-n {
		n++
	}
	return n
}

func TestNewIn(t *testing.T) {
	for _, window := range wrong {
		if i, err := NewIn(window); i != nil || err != api.ErrArg {
			t.Errorf("P17.6: NewIn(%d) = %v, %d, want nil, ErrArg", window, i, err)
		}
	}
	for _, window := range []int64{0, 1, 2, 65536, api.MaxNumber - 1, api.MaxNumber} {
		i := madeIn(t, window)
		inIs(t, "P17.6", i, window, 0, 0, window, false)
		updates(t, "P17.6: it was told in the handshake", i, -1)
		inIs(t, "P17.6", i, window, 0, 0, window, false)
	}
}

func TestTake(t *testing.T) {
	for _, window := range []int64{0, 1, 10, api.MaxNumber - 1, api.MaxNumber} {
		for _, taken := range []int64{0, window / 2, max(window-1, 0), window} {
			left := window - taken
			for _, x := range []struct {
				say  string
				n    int64
				want api.Errno
			}{
				{"below 0", -1, api.ErrArg},
				{"just so far below 0 as was taken", -taken - 1, api.ErrArg},
				{"far below 0", math.MinInt64, api.ErrArg},
				{"far below 0, but one", math.MinInt64 + 1, api.ErrArg},
				{"nothing", 0, api.OK},
				{"just below what is left", max(left-1, 0), api.OK},
				{"what is left", left, api.OK},
				{"just above what is left", left + 1, api.ErrCreditLimit},
				{"far above what is left", api.MaxNumber + 1, api.ErrCreditLimit},
				{"a sum of the greatest number", math.MaxInt64 - taken, api.ErrCreditLimit},
				{"as much as can be", math.MaxInt64, api.ErrCreditLimit},
			} {
				i := madeIn(t, window)
				takes(t, "P17.7", i, taken, api.OK)
				takes(t, "P17.7: "+x.say, i, x.n, x.want)
				if x.want == api.OK {
					inIs(t, "P17.7: "+x.say, i, window, taken+x.n, 0, window, false)
				}
			}
		}
	}
}

// What may be taken hangs on the limit that was told: not on the next one, and not on what was consumed.
func TestTakeUpToTheLimitThatWasTold(t *testing.T) {
	i := come(t, 10, 10, 9)
	takes(t, "P17.7: Update wasn't asked", i, 1, api.ErrCreditLimit)
	updates(t, "P17.9", i, 19)
	takes(t, "P17.7: above the new limit", i, 10, api.ErrCreditLimit)
	takes(t, "P17.7: up to the new limit", i, 9, api.OK)
	inIs(t, "P17.7", i, 19, 19, 9, 10, false)
	takes(t, "P17.7: one more", i, 1, api.ErrCreditLimit)
	takes(t, "P17.7: nothing more", i, 0, api.OK)
}

func TestConsume(t *testing.T) {
	const window = api.MaxNumber
	for _, taken := range []int64{0, 1, 10, window - 1, window} {
		for _, consumed := range []int64{0, taken / 2, max(taken-1, 0), taken} {
			left := taken - consumed
			for _, x := range []struct {
				say  string
				n    int64
				want api.Errno
			}{
				{"below 0", -1, api.ErrArg},
				{"just so far below 0 as was consumed", -consumed - 1, api.ErrArg},
				{"far below 0", math.MinInt64, api.ErrArg},
				{"far below 0, but one", math.MinInt64 + 1, api.ErrArg},
				{"nothing", 0, api.OK},
				{"just below what was taken", max(left-1, 0), api.OK},
				{"what was taken", left, api.OK},
				{"just above what was taken", left + 1, api.ErrArg},
				{"above every number", api.MaxNumber + 1, api.ErrArg},
				{"a sum of the greatest number", math.MaxInt64 - consumed, api.ErrArg},
				{"as much as can be", math.MaxInt64, api.ErrArg},
			} {
				i := come(t, window, taken, consumed)
				consumes(t, "P17.8: "+x.say, i, x.n, x.want)
				if x.want == api.OK {
					inIs(t, "P17.8: "+x.say, i, window, taken, consumed+x.n, window, false)
				}
			}
		}
	}
}

// Not the limit, but what was taken bounds what is consumed.
func TestConsumeNoMoreThanWasTaken(t *testing.T) {
	i := madeIn(t, 10)
	consumes(t, "P17.8: nothing was taken", i, 1, api.ErrArg)
	for taken := range int64(10) {
		takes(t, "P17.8", i, 1, api.OK)
		consumes(t, "P17.8", i, 2, api.ErrArg)
		consumes(t, "P17.8", i, 1, api.OK)
		consumes(t, "P17.8", i, 1, api.ErrArg)
		inIs(t, "P17.8", i, 10, taken+1, taken+1, 10, taken+1 >= 5)
	}
}

// Just at half a window, rounded up, a limit is told, and not below it.
func TestUpdateAtHalfAWindow(t *testing.T) {
	for window := range int64(40) {
		h := half(window)
		for n := range window + 1 {
			i := come(t, window, window, n)
			wants := n >= h && n > 0
			inIs(t, "P17.9", i, window, window, n, window, wants)
			if !wants {
				updates(t, "P17.9: below half a window", i, -1)
				inIs(t, "P17.9: nothing changes", i, window, window, n, window, false)
				continue
			}
			updates(t, "P17.9: half a window and more", i, window+n)
			inIs(t, "P17.9", i, window+n, window, n, window, false)
			updates(t, "P17.9: twice", i, -1)
			inIs(t, "P17.9: twice", i, window+n, window, n, window, false)
		}
	}
}

// The rise is from the limit that was told last, not from the first one, and not from the last Consume.
func TestUpdateFromTheLimitThatWasTold(t *testing.T) {
	for _, window := range []int64{1, 2, 3, 4, 7, 10} {
		i := madeIn(t, window)
		limit, consumed, h := window, int64(0), half(window)
		for range 5 * window {
			takes(t, "P17.7", i, 1, api.OK)
			consumes(t, "P17.8", i, 1, api.OK)
			consumed++
			if consumed+window < limit+h {
				updates(t, "P17.9", i, -1)
				continue
			}
			limit = consumed + window
			updates(t, "P17.9", i, limit)
		}
		inIs(t, "P17.9", i, limit, consumed, consumed, window, false)
	}
}

// What was taken and not consumed gives no new limit.
func TestUpdateHangsOnWhatWasConsumed(t *testing.T) {
	i := madeIn(t, 10)
	takes(t, "P17.9", i, 10, api.OK)
	inIs(t, "P17.9: all was taken", i, 10, 10, 0, 10, false)
	updates(t, "P17.9: all was taken", i, -1)
	consumes(t, "P17.9", i, 10, api.OK)
	updates(t, "P17.9: all was consumed", i, 20)
}

func TestUpdateOfAWindowOfNothing(t *testing.T) {
	i := madeIn(t, 0)
	takes(t, "P17.9", i, 0, api.OK)
	consumes(t, "P17.9", i, 0, api.OK)
	takes(t, "P17.9", i, 1, api.ErrCreditLimit)
	consumes(t, "P17.9", i, 1, api.ErrArg)
	i.Again(0)
	inIs(t, "P17.9", i, 0, 0, 0, 0, false)
	updates(t, "P17.9", i, -1)
	inIs(t, "P17.9", i, 0, 0, 0, 0, false)
}

func TestUpdateOfAWindowOfOne(t *testing.T) {
	i := madeIn(t, 1)
	for n := range int64(9) {
		inIs(t, "P17.9", i, n+1, n, n, 1, false)
		takes(t, "P17.9", i, 2, api.ErrCreditLimit)
		takes(t, "P17.9", i, 1, api.OK)
		updates(t, "P17.9: it is taken", i, -1)
		consumes(t, "P17.9", i, 1, api.OK)
		updates(t, "P17.9: it is consumed", i, n+2)
		updates(t, "P17.9: twice", i, -1)
	}
}

// The next limit is at most MaxNumber, and what is missing to half a window there is never told.
func TestUpdateNearMaxNumber(t *testing.T) {
	const top = api.MaxNumber
	for _, x := range []struct {
		say                    string
		window, consumed, want int64
	}{
		{"all numbers, none is left", top, top, -1},
		{"all numbers but one, one is left", top - 1, top - 1, -1},
		{"just half a window is left", top - top/3, top - top/3, top},
		{"one less than half a window is left", top - top/3 + 1, top - top/3 + 1, -1},
		{"half of all numbers", top / 2, top / 2, top - 1},
		{"half of all numbers, rounded up", top/2 + 1, top/2 + 1, top},
		{"just to the last", top/2 + 1, top / 2, top},
		{"just above the last", top/2 + 2, top / 2, top},
		{"one below the last", top/2 + 1, top/2 - 1, top - 1},
		{"a great window, just below its half", top/2 + 1, top / 4, -1},
		{"a great window, just at its half", top/2 + 1, top/4 + 1, top/2 + 1 + top/4 + 1},
	} {
		i := come(t, x.window, x.window, x.consumed)
		inIs(t, "P17.9: "+x.say, i, x.window, x.window, x.consumed, x.window, x.want >= 0)
		updates(t, "P17.9: "+x.say, i, x.want)
		inIs(t, "P17.9: "+x.say, i, max(x.window, x.want), x.window, x.consumed, x.window, false)
		updates(t, "P17.9: twice, "+x.say, i, -1)
	}
}

// whole is an In of which so many windows were taken and consumed, one by one.
func whole(t *testing.T, window int64, windows int) *In {
	t.Helper()
	i := madeIn(t, window)
	for n := range int64(windows) {
		takes(t, "P17.7: a window", i, window, api.OK)
		consumes(t, "P17.8: a window", i, window, api.OK)
		updates(t, "P17.9: a window", i, (n+2)*window)
	}
	return i
}

// Once less than half a window is left up to MaxNumber, the next limit isn't worth telling any more; but it is told where one is told again.
func TestTheLastLimits(t *testing.T) {
	const window, top = 1 << 58, 16<<58 - 1
	const last = top - window/2 + 101
	i := whole(t, window, 14)
	takes(t, "P17.9", i, window/2+100, api.OK)
	consumes(t, "P17.9", i, window/2-1, api.OK)
	updates(t, "P17.9: just below half a window", i, -1)
	consumes(t, "P17.9", i, 101, api.OK)
	updates(t, "P17.9: above half a window", i, last)
	takes(t, "P17.9", i, window, api.OK)
	consumes(t, "P17.9", i, window, api.OK)
	inIs(t, "P17.9: too little is left", i, last, last, last, window, false)
	updates(t, "P17.9: too little is left", i, -1)
	takes(t, "P17.7: at the last limit", i, 1, api.ErrCreditLimit)
	i.Again(last)
	updates(t, "P17.10: what is told again is the newest, at most MaxNumber", i, top)
	i.Again(top)
	updates(t, "P17.10: MaxNumber, again", i, top)
	takes(t, "P17.7: up to MaxNumber", i, top-last, api.OK)
	takes(t, "P17.7: above MaxNumber", i, 1, api.ErrCreditLimit)
	consumes(t, "P17.8: up to MaxNumber", i, top-last, api.OK)
	updates(t, "P17.9: nothing is left", i, -1)
	inIs(t, "P17.11", i, top, top, top, window, false)
}

// Where just half a window is left, MaxNumber is told; where one less is left, not.
func TestMaxNumberIsHalfAWindowAway(t *testing.T) {
	const window, top = 1 << 58, 16<<58 - 1
	for _, x := range []struct{ consumed, want int64 }{{window/2 - 1, top}, {window / 2, -1}} {
		i := whole(t, window, 13)
		takes(t, "P17.9", i, window, api.OK)
		consumes(t, "P17.9", i, window, api.OK)
		i.Again(14 * window)
		updates(t, "P17.9", i, 15*window)
		takes(t, "P17.9", i, window, api.OK)
		consumes(t, "P17.9", i, x.consumed, api.OK)
		i.Again(15 * window)
		limit := 15*window + x.consumed
		updates(t, "P17.10: a limit that leaves just so much", i, limit)
		consumes(t, "P17.9", i, window-x.consumed, api.OK)
		takes(t, "P17.9", i, x.consumed, api.OK)
		consumes(t, "P17.9", i, x.consumed, api.OK)
		inIs(t, "P17.9", i, limit, limit, limit, window, x.want >= 0)
		updates(t, "P17.9", i, x.want)
	}
}

func TestInAgainOfTheFirstLimit(t *testing.T) {
	for _, window := range []int64{0, 1, 10, api.MaxNumber} {
		i := madeIn(t, window)
		i.Again(window)
		inIs(t, "P17.10: the first", i, window, 0, 0, window, false)
		updates(t, "P17.10: the first", i, -1)
		takes(t, "P17.10", i, window, api.OK)
		i.Again(window)
		updates(t, "P17.10: the first, all is taken", i, -1)
		consumes(t, "P17.10", i, max(window-1, 0)/2, api.OK)
		i.Again(window)
		updates(t, "P17.10: the first, less than half is consumed", i, -1)
		inIs(t, "P17.10: the first", i, window, window, max(window-1, 0)/2, window, false)
	}
}

func TestInAgain(t *testing.T) {
	i := come(t, 10, 10, 5)
	i.Again(15)
	inIs(t, "P17.10: the next limit, which wasn't told", i, 10, 10, 5, 10, true)
	updates(t, "P17.10", i, 15)
	inIs(t, "P17.10: that was asked for ahead of it doesn't count", i, 15, 10, 5, 10, false)
	for _, limit := range []int64{math.MinInt64, -15, -1, 0, 5, 10, 14, 16, 25, api.MaxNumber, math.MaxInt64} {
		i.Again(limit)
		inIs(t, "P17.10: another", i, 15, 10, 5, 10, false)
		updates(t, "P17.10: another", i, -1)
	}
	i.Again(15)
	inIs(t, "P17.10: the newest", i, 15, 10, 5, 10, true)
	for _, limit := range []int64{10, 15, 20, -1} {
		i.Again(limit)
		inIs(t, "P17.10: and others, or twice", i, 15, 10, 5, 10, true)
	}
	updates(t, "P17.10: the newest", i, 15)
	inIs(t, "P17.10: it was told again", i, 15, 10, 5, 10, false)
	updates(t, "P17.10: once alone", i, -1)
}

// What is told again is the newest, also where that alone wouldn't be worth telling; and an older one isn't told again.
func TestInAgainTellsTheNewest(t *testing.T) {
	i := come(t, 10, 10, 5)
	updates(t, "P17.10", i, 15)
	consumes(t, "P17.10", i, 1, api.OK)
	updates(t, "P17.9: one more isn't worth telling", i, -1)
	i.Again(15)
	inIs(t, "P17.10", i, 15, 10, 6, 10, true)
	consumes(t, "P17.10", i, 2, api.OK)
	takes(t, "P17.10: the limit is still the old one", i, 6, api.ErrCreditLimit)
	updates(t, "P17.10: all that was consumed counts", i, 18)
	inIs(t, "P17.10", i, 18, 10, 8, 10, false)
	i.Again(15)
	updates(t, "P17.10: an older one", i, -1)
	i.Again(10)
	updates(t, "P17.10: the first", i, -1)
	takes(t, "P17.10", i, 8, api.OK)
	consumes(t, "P17.10", i, 4, api.OK)
	updates(t, "P17.9: the half counts from 18 on", i, -1)
	consumes(t, "P17.10", i, 1, api.OK)
	updates(t, "P17.9: the half counts from 18 on", i, 23)
	i.Again(18)
	updates(t, "P17.10: it was overtaken", i, -1)
	i.Again(23)
	updates(t, "P17.10: the newest", i, 23)
}

// Where both hold, it is told once: the rise is told with what was to tell again.
func TestUpdateAndAgainAtOnce(t *testing.T) {
	i := come(t, 4, 4, 2)
	updates(t, "P17.9", i, 6)
	consumes(t, "P17.9", i, 2, api.OK)
	i.Again(6)
	inIs(t, "P17.9", i, 6, 4, 4, 4, true)
	updates(t, "P17.9", i, 8)
	inIs(t, "P17.9: it isn't to tell again any more", i, 8, 4, 4, 4, false)
	updates(t, "P17.9", i, -1)
}

// Take and Consume, taken or refused, leave what is to tell again.
func TestToTellAgainStays(t *testing.T) {
	i := come(t, 10, 10, 5)
	updates(t, "P17.9", i, 15)
	i.Again(15)
	takes(t, "P17.7", i, -1, api.ErrArg)
	takes(t, "P17.7", i, 6, api.ErrCreditLimit)
	takes(t, "P17.7", i, 2, api.OK)
	consumes(t, "P17.8", i, -1, api.ErrArg)
	consumes(t, "P17.8", i, 8, api.ErrArg)
	consumes(t, "P17.8", i, 0, api.OK)
	inIs(t, "P17.10", i, 15, 12, 5, 10, true)
	updates(t, "P17.10", i, 15)
}
