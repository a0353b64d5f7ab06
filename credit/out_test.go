package credit

import (
	"math"
	"testing"

	"portage/api"
)

func TestNewOut(t *testing.T) {
	for _, limit := range wrong {
		if o, err := NewOut(limit); o != nil || err != api.ErrArg {
			t.Errorf("P17.1: NewOut(%d) = %v, %d, want nil, ErrArg", limit, o, err)
		}
	}
	for _, limit := range []int64{0, 1, 2, 65536, api.MaxNumber - 1, api.MaxNumber} {
		outIs(t, "P17.1", madeOut(t, limit), limit, 0, -1, limit == 0)
	}
}

func TestUse(t *testing.T) {
	for _, limit := range []int64{0, 1, 10, api.MaxNumber - 1, api.MaxNumber} {
		for _, used := range []int64{0, limit / 2, max(limit-1, 0), limit} {
			room := limit - used
			for _, x := range []struct {
				say  string
				n    int64
				want api.Errno
			}{
				{"below 0", -1, api.ErrArg},
				{"just so far below 0 as was used", -used - 1, api.ErrArg},
				{"far below 0", math.MinInt64, api.ErrArg},
				{"far below 0, but one", math.MinInt64 + 1, api.ErrArg},
				{"nothing", 0, api.OK},
				{"just below Room", max(room-1, 0), api.OK},
				{"Room", room, api.OK},
				{"just above Room", room + 1, api.ErrCreditLimit},
				{"far above Room", api.MaxNumber + 1, api.ErrCreditLimit},
				{"a sum just above 64 bits", math.MaxInt64 - used + 1, api.ErrCreditLimit},
				{"as much as can be", math.MaxInt64, api.ErrCreditLimit},
			} {
				o := madeOut(t, limit)
				uses(t, "P17.2", o, used, api.OK)
				n := x.n
				if n < 0 && x.want == api.ErrCreditLimit {
					// Of nothing used, one more than the greatest number wraps round.
					n = math.MaxInt64
				}
				uses(t, "P17.2: "+x.say, o, n, x.want)
				now := used
				if x.want == api.OK {
					now += n
				}
				outIs(t, "P17.2: "+x.say, o, limit, now, -1, now == limit)
			}
		}
	}
}

// Bit by bit all of it is used, and not one more.
func TestUseBitByBit(t *testing.T) {
	o := madeOut(t, 10)
	for used := range int64(10) {
		outIs(t, "P17.2", o, 10, used, -1, false)
		uses(t, "P17.2", o, 10-used+1, api.ErrCreditLimit)
		uses(t, "P17.2", o, -1, api.ErrArg)
		uses(t, "P17.2", o, 1, api.OK)
	}
	uses(t, "P17.2", o, 1, api.ErrCreditLimit)
	uses(t, "P17.2", o, 0, api.OK)
	uses(t, "P17.2: without room", o, -1, api.ErrArg)
	outIs(t, "P17.2", o, 10, 10, -1, true)
}

func TestRaise(t *testing.T) {
	for _, x := range []struct{ limit, to, want int64 }{
		{10, math.MinInt64, 10}, {10, -1, 10}, {10, 0, 10}, {10, 9, 10}, {10, 10, 10}, {10, 11, 11}, {10, 1000, 1000},
		{0, -1, 0}, {0, 0, 0}, {0, 1, 1}, {0, math.MinInt64, 0}, {0, math.MaxInt64, api.MaxNumber},
		{10, api.MaxNumber - 1, api.MaxNumber - 1}, {10, api.MaxNumber, api.MaxNumber}, {10, api.MaxNumber + 1, api.MaxNumber}, {10, math.MaxInt64, api.MaxNumber},
		{api.MaxNumber - 1, api.MaxNumber - 1, api.MaxNumber - 1}, {api.MaxNumber - 1, api.MaxNumber, api.MaxNumber}, {api.MaxNumber - 1, api.MaxNumber + 1, api.MaxNumber},
		{api.MaxNumber, api.MaxNumber - 1, api.MaxNumber}, {api.MaxNumber, api.MaxNumber, api.MaxNumber},
		{api.MaxNumber, api.MaxNumber + 1, api.MaxNumber}, {api.MaxNumber, math.MaxInt64, api.MaxNumber},
	} {
		for _, used := range []int64{0, x.limit / 2, x.limit} {
			o := madeOut(t, x.limit)
			uses(t, "P17.3", o, used, api.OK)
			raises(t, "P17.3", o, x.to, x.want > x.limit)
			outIs(t, "P17.3", o, x.want, used, -1, used == x.want)
			raises(t, "P17.3: twice", o, x.to, false)
			outIs(t, "P17.3: twice", o, x.want, used, -1, used == x.want)
			uses(t, "P17.3: one above", o, x.want-used+1, api.ErrCreditLimit)
			uses(t, "P17.3: all", o, x.want-used, api.OK)
			outIs(t, "P17.3: all", o, x.want, x.want, -1, true)
		}
	}
}

// Raise leaves what was told as it is, whether the limit rises or not.
func TestRaiseLeavesWhatWasTold(t *testing.T) {
	o := madeOut(t, 10)
	uses(t, "P17.3", o, 10, api.OK)
	blocks(t, "P17.3", o, 10)
	for _, limit := range []int64{math.MinInt64, -1, 0, 9, 10} {
		raises(t, "P17.3", o, limit, false)
		outIs(t, "P17.3: it doesn't rise", o, 10, 10, 10, false)
	}
	raises(t, "P17.3", o, 11, true)
	outIs(t, "P17.3: it rises", o, 11, 10, 10, false)
}

func TestBlockedWithRoom(t *testing.T) {
	for _, limit := range []int64{1, 10, api.MaxNumber} {
		o := madeOut(t, limit)
		blocks(t, "P17.4: with all its room", o, -1)
		outIs(t, "P17.4: with all its room", o, limit, 0, -1, false)
		uses(t, "P17.4", o, limit-1, api.OK)
		blocks(t, "P17.4: with room for one", o, -1)
		outIs(t, "P17.4: with room for one", o, limit, limit-1, -1, false)
		uses(t, "P17.4", o, 1, api.OK)
		outIs(t, "P17.4: without room", o, limit, limit, -1, true)
		blocks(t, "P17.4: without room", o, limit)
		outIs(t, "P17.4: it is told", o, limit, limit, limit, false)
		blocks(t, "P17.4: twice", o, -1)
		outIs(t, "P17.4: twice", o, limit, limit, limit, false)
	}
}

// A limit of 0 is come to from the first: that it was told isn't that none was.
func TestBlockedAtNothing(t *testing.T) {
	o := madeOut(t, 0)
	o.Again(-1)
	outIs(t, "P17.4", o, 0, 0, -1, true)
	blocks(t, "P17.4", o, 0)
	outIs(t, "P17.4", o, 0, 0, 0, false)
	blocks(t, "P17.4", o, -1)
	o.Again(-1)
	outIs(t, "P17.4: -1 is no limit that was told", o, 0, 0, 0, false)
	o.Again(0)
	outIs(t, "P17.4", o, 0, 0, -1, true)
	blocks(t, "P17.4", o, 0)
}

// Nothing but a Blocked that tells, and Again, changes what was told.
func TestBlockedBehindRaise(t *testing.T) {
	o := madeOut(t, 10)
	uses(t, "P17.4", o, 10, api.OK)
	blocks(t, "P17.4", o, 10)
	raises(t, "P17.4", o, 12, true)
	outIs(t, "P17.4: it has risen", o, 12, 10, 10, false)
	blocks(t, "P17.4: it has risen", o, -1)
	uses(t, "P17.4", o, 1, api.OK)
	blocks(t, "P17.4: room for one", o, -1)
	uses(t, "P17.4", o, 1, api.OK)
	outIs(t, "P17.4: at the new limit", o, 12, 12, 10, true)
	blocks(t, "P17.4: at the new limit", o, 12)
	outIs(t, "P17.4: at the new limit", o, 12, 12, 12, false)
	blocks(t, "P17.4: at the new limit, twice", o, -1)
}

// A limit that is passed over without having been told isn't told.
func TestBlockedTellsTheLimitThatIs(t *testing.T) {
	o := madeOut(t, 10)
	uses(t, "P17.4", o, 10, api.OK)
	raises(t, "P17.4", o, 11, true)
	uses(t, "P17.4", o, 1, api.OK)
	raises(t, "P17.4", o, 11, false)
	blocks(t, "P17.4", o, 11)
	outIs(t, "P17.4", o, 11, 11, 11, false)
}

func TestOutAgain(t *testing.T) {
	others := []int64{math.MinInt64, -10, -1, 0, 9, 11, 20, api.MaxNumber, math.MaxInt64}
	o := madeOut(t, 10)
	for _, limit := range append(others, 10) {
		o.Again(limit)
		outIs(t, "P17.4: none was told", o, 10, 0, -1, false)
	}
	uses(t, "P17.4", o, 10, api.OK)
	for _, limit := range append(others, 10) {
		o.Again(limit)
		outIs(t, "P17.4: none was told, without room", o, 10, 10, -1, true)
	}
	blocks(t, "P17.4", o, 10)
	for _, limit := range others {
		o.Again(limit)
		outIs(t, "P17.4: another", o, 10, 10, 10, false)
		blocks(t, "P17.4: another", o, -1)
	}
	o.Again(10)
	outIs(t, "P17.4: the one told", o, 10, 10, -1, true)
	o.Again(10)
	outIs(t, "P17.4: twice", o, 10, 10, -1, true)
	blocks(t, "P17.4: the one told", o, 10)
	outIs(t, "P17.4: once more", o, 10, 10, 10, false)
	blocks(t, "P17.4: once more", o, -1)
}

// What is told of a limit that is the limit no more isn't told again.
func TestOutAgainBehindRaise(t *testing.T) {
	o := madeOut(t, 10)
	uses(t, "P17.4", o, 10, api.OK)
	blocks(t, "P17.4", o, 10)
	raises(t, "P17.4", o, 12, true)
	o.Again(12)
	outIs(t, "P17.4: the limit, but not the one told", o, 12, 10, 10, false)
	o.Again(10)
	outIs(t, "P17.4: the one told, but not the limit", o, 12, 10, -1, false)
	blocks(t, "P17.4: there is room", o, -1)
	uses(t, "P17.4", o, 2, api.OK)
	blocks(t, "P17.4: the limit that is", o, 12)
	o.Again(10)
	outIs(t, "P17.4: an older one", o, 12, 12, 12, false)
	blocks(t, "P17.4: an older one", o, -1)
	o.Again(12)
	blocks(t, "P17.4: the newest", o, 12)
}

// At MaxNumber there is nothing left to raise, but it is told as any limit.
func TestBlockedAtMaxNumber(t *testing.T) {
	o := madeOut(t, api.MaxNumber-1)
	uses(t, "P17.4", o, api.MaxNumber-1, api.OK)
	blocks(t, "P17.4", o, api.MaxNumber-1)
	raises(t, "P17.3", o, math.MaxInt64, true)
	uses(t, "P17.2", o, 2, api.ErrCreditLimit)
	uses(t, "P17.2", o, 1, api.OK)
	blocks(t, "P17.4", o, api.MaxNumber)
	raises(t, "P17.3", o, math.MaxInt64, false)
	outIs(t, "P17.5", o, api.MaxNumber, api.MaxNumber, api.MaxNumber, false)
	o.Again(math.MaxInt64)
	outIs(t, "P17.4: Again isn't cut as Raise is", o, api.MaxNumber, api.MaxNumber, api.MaxNumber, false)
	o.Again(api.MaxNumber)
	blocks(t, "P17.4", o, api.MaxNumber)
}
