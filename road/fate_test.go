package road

import (
	"math"
	"strings"
	"testing"

	"portage/api"
)

// three is a road with three datagrams, of each mark, and a fourth that was taken and a fifth that was lost.
func three(t *testing.T) *Road {
	t.Helper()
	r := made(t, 0, 10)
	put(t, r, 0, api.Client, "gone", api.Capable, 0)
	takes(t, "W3", r, 10, "0c10+gone")
	put(t, r, 10, api.Server, "lost", api.Capable, 1)
	is(t, "W2: Lose(1)", r.Lose(1), api.OK)
	put(t, r, 20, api.Server, "a", api.Unmarked, 2)
	put(t, r, 21, api.Client, "b", api.Capable, 3)
	put(t, r, 22, api.Server, "c", api.Marked, 4)
	return r
}

// asThree is what is under way on it.
const asThree = "2s30-a 3c31+b 4s32!c"

// Of a number that isn't under way all four answer ErrNone, whatever the time that they are told, on a full road too.
func TestNoSuchDatagram(t *testing.T) {
	r := three(t)
	full := made(t, 0, 10)
	fill(t, full, 0)
	for _, c := range []struct {
		r    *Road
		more []int
	}{{r, []int{0, 1, 5}}, {full, []int{api.MaxFlight}}, {made(t, 0, 10), []int{0, 1}}} {
		for _, id := range append(c.more, nobody...) {
			unchanged(t, "W2: of a number that isn't under way each call", c.r, func() {
				is(t, "W2: Lose", c.r.Lose(id), api.ErrNone)
				is(t, "W2: Mark", c.r.Mark(id), api.ErrNone)
				for _, at := range append([]int64{0, 20, api.Never - 1}, noArrival...) {
					is(t, "W2: Delay", c.r.Delay(id, at), api.ErrNone)
					if other, err := c.r.Double(id, at); other != 0 || err != api.ErrNone {
						t.Errorf("W2: Double(%d, %d) = %d, %d, want 0, ErrNone", id, at, other, err)
					}
				}
			})
		}
	}
}

func TestLose(t *testing.T) {
	for id, left := range map[int]string{2: "3c31+b 4s32!c", 3: "2s30-a 4s32!c", 4: "2s30-a 3c31+b"} {
		r := three(t)
		is(t, "W2: Lose", r.Lose(id), api.OK)
		holds(t, "W2: Lose", r, left)
		is(t, "W2: Lose once more", r.Lose(id), api.ErrNone)
		is(t, "W2: Mark of one that is lost", r.Mark(id), api.ErrNone)
		is(t, "W2: Delay of one that is lost", r.Delay(id, 1), api.ErrNone)
		takes(t, "W2: Lose", r, 99, left)
	}
	r := three(t)
	for id := 2; id <= 4; id++ {
		is(t, "W2: Lose", r.Lose(id), api.OK)
	}
	holds(t, "W2: all are lost", r, "")
	takes(t, "W2: all are lost", r, math.MaxInt64, "")
}

// Where one was lost another lies: it has its own time, and is not lost with it.
func TestLostPlaceIsAnothers(t *testing.T) {
	r := three(t)
	is(t, "W2: Lose(2)", r.Lose(2), api.OK)
	put(t, r, 25, api.Client, "d", api.Unmarked, 5)
	is(t, "W2: Lose(2)", r.Lose(2), api.ErrNone)
	is(t, "W2: Delay(2, 3)", r.Delay(2, 3), api.ErrNone)
	is(t, "W2: Mark(2)", r.Mark(2), api.ErrNone)
	holds(t, "W2", r, "3c31+b 4s32!c 5c35-d")
	takes(t, "W2", r, 30, "")
	takes(t, "W2", r, 35, "3c31+b 4s32!c 5c35-d")
}

func TestDelay(t *testing.T) {
	for _, c := range []struct {
		id   int
		at   int64
		want string
	}{
		{2, 30, asThree}, {2, 31, "2s31-a 3c31+b 4s32!c"}, {2, 32, "3c31+b 2s32-a 4s32!c"}, {2, 33, "3c31+b 4s32!c 2s33-a"},
		{4, 31, "2s30-a 3c31+b 4s31!c"}, {4, 30, "2s30-a 4s30!c 3c31+b"}, {4, 29, "4s29!c 2s30-a 3c31+b"}, {3, 30, "2s30-a 3c30+b 4s32!c"},
		{3, 0, "3c0+b 2s30-a 4s32!c"}, {3, 1, "3c1+b 2s30-a 4s32!c"}, {3, 22, "3c22+b 2s30-a 4s32!c"},
		{3, api.MaxTime, "2s30-a 4s32!c 3c1125899906842624+b"}, {3, api.MaxTime + 1, "2s30-a 4s32!c 3c1125899906842625+b"},
		{3, api.Never - 1, "2s30-a 4s32!c 3c4611686018427387903+b"},
	} {
		r := three(t)
		is(t, "W2: Delay", r.Delay(c.id, c.at), api.OK)
		holds(t, "W2: Delay", r, c.want)
		is(t, "W2: Delay again", r.Delay(c.id, c.at), api.OK)
		holds(t, "W2: Delay again", r, c.want)
		takes(t, "W2: Delay", r, math.MaxInt64, upToMaxTime(c.want))
	}
}

// upToMaxTime leaves out the one that never arrives.
func upToMaxTime(want string) string {
	for _, late := range []string{" 3c1125899906842625+b", " 3c4611686018427387903+b"} {
		want = strings.TrimSuffix(want, late)
	}
	return want
}

// One that is put off to a time that has passed comes at the next Take, be the clock where it was; with the time that was told.
func TestDelayToWhatHasPassed(t *testing.T) {
	r := three(t)
	is(t, "W2: Delay(4, 7)", r.Delay(4, 7), api.OK)
	is(t, "W2: Delay(3, 22)", r.Delay(3, 22), api.OK)
	if at := r.Next(); at != 7 {
		t.Errorf("W2: Next = %d, want 7", at)
	}
	takes(t, "W2: at once", r, 0, "4s7!c 3c22+b")
	takes(t, "W2: at once", r, 29, "")
	is(t, "W2: Delay(2, 29)", r.Delay(2, 29), api.OK)
	takes(t, "W2: at the clock", r, 0, "2s29-a")
}

// One that has been put off comes at that time alone; put off again, at the last one.
func TestDelayTwice(t *testing.T) {
	r := three(t)
	is(t, "W2: Delay(2, 500)", r.Delay(2, 500), api.OK)
	takes(t, "W2: put off", r, 499, "3c31+b 4s32!c")
	is(t, "W2: Delay(2, 600)", r.Delay(2, 600), api.OK)
	takes(t, "W2: put off again", r, 599, "")
	takes(t, "W2: put off again", r, 600, "2s600-a")
	takes(t, "W2: put off again", r, api.MaxTime, "")
}

func TestWrongTimes(t *testing.T) {
	full := made(t, 0, 10)
	fill(t, full, 0)
	for _, r := range []*Road{three(t), full} {
		for _, at := range noArrival {
			for id := 2; id <= 4; id++ {
				unchanged(t, "W2: a wrong time", r, func() {
					is(t, "W2: Delay", r.Delay(id, at), api.ErrArg)
					if other, err := r.Double(id, at); other != 0 || err != api.ErrArg {
						t.Errorf("W2: Double(%d, %d) = %d, %d, want 0, ErrArg", id, at, other, err)
					}
				})
			}
		}
	}
}

func TestDouble(t *testing.T) {
	for _, c := range []struct {
		id   int
		at   int64
		want string
	}{
		{2, 30, "2s30-a 5s30-a 3c31+b 4s32!c"}, {2, 31, "2s30-a 3c31+b 5s31-a 4s32!c"}, {4, 0, "5s0!c 2s30-a 3c31+b 4s32!c"}, {3, 30, "2s30-a 5c30+b 3c31+b 4s32!c"},
		{4, 40, "2s30-a 3c31+b 4s32!c 5s40!c"}, {2, api.Never - 1, "2s30-a 3c31+b 4s32!c 5s4611686018427387903-a"},
	} {
		r := three(t)
		double(t, r, c.id, c.at, 5)
		holds(t, "W2: Double", r, c.want)
		takes(t, "W2: Double", r, 50, strings.TrimSuffix(c.want, " 5s4611686018427387903-a"))
	}
}

// What befalls one of two befalls the other one not.
func TestDoublesGoTheirOwnWay(t *testing.T) {
	r := three(t)
	double(t, r, 3, 40, 5)
	is(t, "W2: Mark(5)", r.Mark(5), api.OK)
	double(t, r, 5, 41, 6)
	is(t, "W2: Mark(3)", r.Mark(3), api.OK)
	holds(t, "W2", r, "2s30-a 3c31!b 4s32!c 5c40!b 6c41!b")
	is(t, "W2: Lose(3)", r.Lose(3), api.OK)
	is(t, "W2: Delay(5, 43)", r.Delay(5, 43), api.OK)
	double(t, r, 5, 33, 7)
	takes(t, "W2", r, 42, "2s30-a 4s32!c 7c33!b 6c41!b")
	double(t, r, 5, 42, 8)
	takes(t, "W2", r, 43, "8c42!b 5c43!b")
	if other, err := r.Double(5, 50); other != 0 || err != api.ErrNone {
		t.Errorf("W2: of one that was taken Double is %d, %d", other, err)
	}
}

// A datagram as long as may be, and one without a byte, are doubled as they are.
func TestDoubleOfAnyBytes(t *testing.T) {
	r := made(t, 0, 1)
	long := strings.Repeat("0123456789", 900)
	put(t, r, 0, api.Server, long, api.Marked, 0)
	put(t, r, 0, api.Client, "", api.Capable, 1)
	double(t, r, 0, 2, 2)
	double(t, r, 1, 2, 3)
	double(t, r, 2, 3, 4)
	takes(t, "W4", r, 3, "0s1!"+long+" 1c1+ 2s2!"+long+" 3c2+ 4s3!"+long)
}

func TestDoubleOnAFullRoad(t *testing.T) {
	r := made(t, 0, 10)
	fill(t, r, 0)
	for _, id := range []int{0, 1, 2000, api.MaxFlight - 1} {
		unchanged(t, "W2: Double on a full road", r, func() {
			if other, err := r.Double(id, 5); other != 0 || err != api.ErrFull {
				t.Errorf("W2: Double on a full road = %d, %d, want 0, ErrFull", other, err)
			}
		})
	}
	is(t, "W2: Delay(9, 4)", r.Delay(9, 4), api.OK)
	is(t, "W2: Mark(9)", r.Mark(9), api.OK)
	is(t, "W2: Lose(0)", r.Lose(0), api.OK)
	double(t, r, 9, 5, api.MaxFlight)
	if other, err := r.Double(9, 5); other != 0 || err != api.ErrFull {
		t.Errorf("W2: Double on a road that is full again = %d, %d, want 0, ErrFull", other, err)
	}
	takes(t, "W2", r, 5, "9s4!x 4096s5!x")
}

func TestMark(t *testing.T) {
	r := three(t)
	for _, c := range []struct {
		id   int
		want string
	}{{2, asThree}, {4, asThree}, {3, "2s30-a 3c31!b 4s32!c"}, {3, "2s30-a 3c31!b 4s32!c"}} {
		is(t, "W2: Mark", r.Mark(c.id), api.OK)
		holds(t, "W2: Mark", r, c.want)
	}
	takes(t, "W2: Mark", r, 40, "2s30-a 3c31!b 4s32!c")
}

// The script's calls have no clock: a time that they are told is none of the road's.
func TestFatesHaveNoClock(t *testing.T) {
	r := three(t)
	is(t, "W2: Delay(2, 900)", r.Delay(2, 900), api.OK)
	double(t, r, 3, 800, 5)
	is(t, "W2: Mark(3)", r.Mark(3), api.OK)
	is(t, "W2: Lose(4)", r.Lose(4), api.OK)
	r.Next()
	r.Len()
	for range r.All() {
	}
	takes(t, "R5", r, 0, "")
	put(t, r, 0, api.Server, "d", api.Unmarked, 6)
	holds(t, "R5: the clock is 22 still", r, "3c31!b 6s32-d 5c800+b 2s900-a")
}
