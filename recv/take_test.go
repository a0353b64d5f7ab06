package recv

import (
	"fmt"
	"math"
	"strings"
	"testing"

	"portage/api"
)

// Pieces in their order, turned round, twice, overlapping, one in another, one over several: of one text.
func TestTakeOfOneText(t *testing.T) {
	type came struct {
		off        int64
		text, view string
		rise       int64
	}
	rows := []struct {
		say    string
		pieces []came
	}{
		{"in their order", []came{{0, "abc", "9: 0 3 -1 3 0-2", 3}, {3, "def", "9: 0 6 -1 6 0-5", 3}, {6, "ghi.", "9: 0 9 9 9 0-8", 3}}},
		{"turned round", []came{{6, "ghi.", "9: 0 9 9 3 6-8", 9}, {3, "def", "9: 0 9 9 6 3-8", 0}, {0, "abc", "9: 0 9 9 9 0-8", 0}}},
		{"twice", []came{{3, "def", "9: 0 6 -1 3 3-5", 6}, {3, "def", "9: 0 6 -1 3 3-5", 0}, {0, "abc", "9: 0 6 -1 6 0-5", 0}, {6, "ghi.", "9: 0 9 9 9 0-8", 3}, {6, "ghi.", "9: 0 9 9 9 0-8", 0}}},
		{"overlapping on the left", []came{{4, "efg", "9: 0 7 -1 3 4-6", 7}, {2, "cde", "9: 0 7 -1 5 2-6", 0}, {0, "abc", "9: 0 7 -1 7 0-6", 0}, {7, "hi.", "9: 0 9 9 9 0-8", 2}}},
		{"overlapping on the right", []came{{0, "abcd", "9: 0 4 -1 4 0-3", 4}, {3, "def", "9: 0 6 -1 6 0-5", 2}, {4, "efghi.", "9: 0 9 9 9 0-8", 3}}},
		{"one in another", []came{{1, "bcdefgh", "9: 0 8 -1 7 1-7", 8}, {3, "de", "9: 0 8 -1 7 1-7", 0}, {1, "b", "9: 0 8 -1 7 1-7", 0}, {7, "h", "9: 0 8 -1 7 1-7", 0}, {0, "abcdefghi.", "9: 0 9 9 9 0-8", 1}}},
		{"one over several", []came{{1, "b", "9: 0 2 -1 1 1-1", 2}, {3, "d", "9: 0 4 -1 2 1-1 3-3", 2}, {6, "gh", "9: 0 8 -1 4 1-1 3-3 6-7", 4}, {0, "abcdefghi.", "9: 0 9 9 9 0-8", 1}}},
		{"one from within one to within another", []came{{0, "abc", "9: 0 3 -1 3 0-2", 3}, {6, "ghi", "9: 0 9 -1 6 0-2 6-8", 6}, {1, "bcdefgh", "9: 0 9 -1 9 0-8", 0}, {9, ".", "9: 0 9 9 9 0-8", 0}}},
		{"just between two", []came{{0, "abc", "9: 0 3 -1 3 0-2", 3}, {6, "ghi.", "9: 0 9 9 6 0-2 6-8", 6}, {3, "def", "9: 0 9 9 9 0-8", 0}}},
	}
	for _, row := range rows {
		for _, most := range []int{1, 2, 4, 9, math.MaxInt} {
			r := made(t, 9)
			for _, c := range row.pieces {
				take(t, "P16.2: "+row.say, r, c.off, c.text, c.rise)
				views(t, "P16.2: "+row.say, r, c.view)
			}
			text, end := "", false
			for !end && len(text) < 9 {
				var data []byte
				data, end = r.Read(most)
				text += string(data)
			}
			if text != "abcdefghi" || !end {
				t.Errorf("P16.8: %s: %q, %v is read", row.say, text, end)
			}
		}
	}
}

// What came first stays, whatever comes later at the same offsets.
func TestFirstStays(t *testing.T) {
	r := made(t, 20)
	take(t, "P16.10", r, 4, "eee", 7)
	take(t, "P16.10: the same offsets", r, 4, "xxx", 0)
	take(t, "P16.10: overlapping on the left", r, 2, "ccccc", 0)
	take(t, "P16.10: overlapping on the right", r, 5, "gggggg", 4)
	take(t, "P16.10: one in another", r, 3, "yyy", 0)
	take(t, "P16.10: apart", r, 13, "nn", 4)
	take(t, "P16.10: one over several", r, 0, strings.Repeat("z", 17), 2)
	views(t, "P16.10", r, "20: 0 17 -1 17 0-16")
	take(t, "P16.10: over all of it", r, 0, strings.Repeat("0", 20)+".", 3)
	read(t, "P16.10", r, 99, "zzcceeeggggzznnzz000.")
	take(t, "P16.10: behind the end", r, 0, strings.Repeat("1", 20)+".", 0)
	read(t, "P16.10: behind the end", r, 99, ".")
}

// What was read was taken, too: it doesn't come again.
func TestFirstStaysOnceRead(t *testing.T) {
	r := made(t, 20)
	take(t, "P16.10", r, 0, "abcdef", 6)
	read(t, "P16.10", r, 4, "abcd")
	take(t, "P16.10: all of it was read", r, 0, "xxxx", 0)
	take(t, "P16.10: some of it was read", r, 2, "yyyyyy", 2)
	views(t, "P16.10", r, "20: 4 8 -1 4 0-7")
	take(t, "P16.10: from the beginning on", r, 0, "zzzzzzzzzz.", 2)
	views(t, "P16.10", r, "20: 4 10 10 6 0-9")
	read(t, "P16.10", r, 99, "efyyzz.")
}

// What was refused isn't what came first.
func TestRefusedDoesNotStay(t *testing.T) {
	r := made(t, 4)
	refused(t, "P16.7", r, 2, "xyz", api.ErrRecvLimit)
	take(t, "P16.7", r, 0, "abcd", 4)
	read(t, "P16.7", r, 3, "abc")
	r.Raise(9)
	take(t, "P16.7", r, 5, "f.", 2)
	refused(t, "P16.7", r, 4, "xyz", api.ErrRecvFinal)
	refused(t, "P16.7", r, 4, "x.", api.ErrRecvFinal)
	take(t, "P16.7", r, 4, "e", 0)
	read(t, "P16.7", r, 9, "def.")
}

func TestOffsetsThatMayNotBe(t *testing.T) {
	for _, limit := range []int64{0, 5, api.MaxNumber} {
		r := made(t, limit)
		for _, text := range []string{"", ".", "a", "a.", "ab", "abcdefgh."} {
			for _, off := range []int64{math.MinInt64, math.MinInt64 + 1, -api.MaxNumber, -2, -1, api.MaxNumber + 1, math.MaxInt64 - 1, math.MaxInt64} {
				refused(t, "P16.2", r, off, text, api.ErrArg)
			}
		}
		refused(t, "P16.2: one above MaxNumber", r, api.MaxNumber, "a", api.ErrArg)
		refused(t, "P16.2: one above MaxNumber", r, api.MaxNumber-1, "ab.", api.ErrArg)
		refused(t, "P16.2: one above MaxNumber", r, api.MaxNumber-2, "abc", api.ErrArg)
	}
}

func TestUpToMaxNumber(t *testing.T) {
	const last = api.MaxNumber - 1
	r := made(t, api.MaxNumber)
	take(t, "P16.2: without a byte", r, api.MaxNumber-2, "", api.MaxNumber-2)
	take(t, "P16.2: the last byte", r, last, "z", 2)
	take(t, "P16.2: at MaxNumber without a byte", r, api.MaxNumber, "", 0)
	take(t, "P16.2: the end is MaxNumber", r, last-2, "xyZ.", 0)
	views(t, "P16.2", r, fmt.Sprintf("%d: 0 %d %d 3 %d-%d", api.MaxNumber, api.MaxNumber, api.MaxNumber, last-2, last))
	refused(t, "P16.2", r, api.MaxNumber, "a.", api.ErrArg)
	refused(t, "P16.2", r, last, ".", api.ErrRecvFinal)
	read(t, "P16.3: a hole is ahead of it", r, math.MaxInt, "")
	reset(t, "P16.5", r, api.MaxNumber, 0)
	views(t, "P16.5", r, fmt.Sprintf("%d: 0 %d %d 0 Reset", api.MaxNumber, api.MaxNumber, api.MaxNumber))
	r = made(t, api.MaxNumber-1)
	refused(t, "P16.2: the limit is one below", r, last, "z", api.ErrRecvLimit)
	refused(t, "P16.2: the limit is one below", r, api.MaxNumber, "", api.ErrRecvLimit)
}

func TestLimit(t *testing.T) {
	r := made(t, 5)
	refused(t, "P16.2: one above", r, 0, "abcdef", api.ErrRecvLimit)
	refused(t, "P16.2: one above", r, 5, "f", api.ErrRecvLimit)
	refused(t, "P16.2: one above, without a byte", r, 6, "", api.ErrRecvLimit)
	refused(t, "P16.2: one above, without a byte", r, 6, ".", api.ErrRecvLimit)
	refused(t, "P16.2: far above", r, api.MaxNumber-1, "a.", api.ErrRecvLimit)
	refused(t, "P16.2: at MaxNumber", r, api.MaxNumber, "", api.ErrRecvLimit)
	take(t, "P16.2: at it", r, 4, "e", 5)
	take(t, "P16.2: at it, without a byte", r, 5, "", 0)
	take(t, "P16.2: at it", r, 0, "abcde", 0)
	// What was read gives no room of itself: Raise does.
	read(t, "P16.2", r, 9, "abcde")
	refused(t, "P16.2: all was read", r, 5, "f", api.ErrRecvLimit)
	r.Raise(6)
	take(t, "P16.2: at it", r, 5, "f.", 1)
}

func TestFinalSize(t *testing.T) {
	fins := []struct {
		say  string
		tell func(r *Recv)
	}{
		{"by a piece", func(r *Recv) { r.Take(3, []byte("def"), true) }},
		{"by a piece without a byte", func(r *Recv) { r.Take(6, nil, true) }},
		{"by a reset", func(r *Recv) { r.Reset(6) }},
	}
	for _, c := range fins {
		r := made(t, 9)
		c.tell(r)
		say := "P16.2: the final size is known " + c.say
		if v := r.View(); v.Final != 6 || v.High != 6 {
			t.Errorf("%s: %s", say, tell(v))
		}
		for _, text := range []string{"g", "g.", "ghi", "ghi."} {
			refused(t, say+": above it", r, 6, text, api.ErrRecvFinal)
		}
		refused(t, say+": above it", r, 5, "fg", api.ErrRecvFinal)
		refused(t, say+": above it", r, 0, "abcdefg.", api.ErrRecvFinal)
		refused(t, say+": above it, without a byte", r, 7, "", api.ErrRecvFinal)
		refused(t, say+": above it, without a byte", r, 7, ".", api.ErrRecvFinal)
		refused(t, say+": below it, with fin", r, 0, "abcde.", api.ErrRecvFinal)
		refused(t, say+": below it, with fin", r, 5, ".", api.ErrRecvFinal)
		refused(t, say+": below it, with fin", r, 0, ".", api.ErrRecvFinal)
		take(t, say+": at it", r, 4, "ef", 0)
		take(t, say+": at it, with fin", r, 4, "ef.", 0)
		take(t, say+": at it, without a byte", r, 6, "", 0)
		take(t, say+": at it, with fin, without a byte", r, 6, ".", 0)
		take(t, say+": below it", r, 0, "abcde", 0)
		take(t, say+": below it, without a byte", r, 2, "", 0)
		if v := r.View(); v.Final != 6 || v.High != 6 {
			t.Errorf("%s: %s", say, tell(v))
		}
	}
}

func TestFinBelowHigh(t *testing.T) {
	r := made(t, 9)
	take(t, "P16.2", r, 3, "def", 6)
	refused(t, "P16.2: fin below High", r, 0, "abc.", api.ErrRecvFinal)
	refused(t, "P16.2: fin below High", r, 3, "de.", api.ErrRecvFinal)
	refused(t, "P16.2: fin below High", r, 5, ".", api.ErrRecvFinal)
	take(t, "P16.2: no fin", r, 0, "abc", 0)
	take(t, "P16.2: fin at High", r, 5, "f.", 0)
	views(t, "P16.2: fin at High", r, "9: 0 6 6 6 0-5")
	// High is above all bytes that have come: a piece without a byte raised it.
	r = made(t, 9)
	take(t, "P16.2", r, 7, "", 7)
	refused(t, "P16.2: fin below High", r, 0, "abcdef.", api.ErrRecvFinal)
	take(t, "P16.2: fin at High", r, 0, "abcdefg.", 0)
	views(t, "P16.2: fin at High", r, "9: 0 7 7 7 0-6")
	// All was read.
	r = made(t, 9)
	take(t, "P16.2", r, 0, "abc", 3)
	read(t, "P16.2", r, 9, "abc")
	refused(t, "P16.2: fin below Read", r, 1, "b.", api.ErrRecvFinal)
	take(t, "P16.2: fin above High", r, 3, "de.", 2)
	views(t, "P16.2: fin above High", r, "9: 3 5 5 2 0-4")
}

func TestPieceWithoutAByte(t *testing.T) {
	for _, data := range [][]byte{nil, {}, []byte("abc")[:0]} {
		r := made(t, 9)
		for _, c := range []struct {
			off, rise int64
			fin       bool
			view      string
		}{
			{0, 0, false, "9: 0 0 -1 0"}, {4, 4, false, "9: 0 4 -1 0"}, {3, 0, false, "9: 0 4 -1 0"}, {6, 2, false, "9: 0 6 -1 0"},
			{8, 2, true, "9: 0 8 8 0"}, {8, 0, true, "9: 0 8 8 0"}, {8, 0, false, "9: 0 8 8 0"}, {0, 0, false, "9: 0 8 8 0"},
		} {
			if rise, err := r.Take(c.off, data, c.fin); rise != c.rise || err != api.OK {
				t.Errorf("P16.2: Take(%d, nothing, %v) = %d, %d, want %d, OK", c.off, c.fin, rise, err, c.rise)
			}
			views(t, "P16.2: a piece without a byte", r, c.view)
		}
		take(t, "P16.2", r, 0, "abcdefgh", 0)
		read(t, "P16.2", r, 9, "abcdefgh.")
	}
}

// Where several refusals apply the first is told.
func TestOrderOfRefusals(t *testing.T) {
	r := made(t, 9)
	take(t, "P16.2", r, 2, "cdef", 6)
	refused(t, "P16.2: no offset, and fin below High", r, -1, "a.", api.ErrArg)
	refused(t, "P16.2: no end, and above the limit", r, api.MaxNumber, "a", api.ErrArg)
	refused(t, "P16.2: no offset, though its end is 0", r, -2, "ab", api.ErrArg)
	take(t, "P16.2", r, 6, ".", 0)
	refused(t, "P16.2: no offset, and against the final size", r, -1, "ab.", api.ErrArg)
	refused(t, "P16.2: no end, above the limit, and above the final size", r, math.MaxInt64, "ab.", api.ErrArg)
	refused(t, "P16.2: above the limit, and above the final size", r, 9, "j", api.ErrRecvLimit)
	refused(t, "P16.2: above the limit, and fin at another end", r, 10, ".", api.ErrRecvLimit)
	refusedReset(t, "P16.5: no size, and below High", r, -1, api.ErrArg)
	refusedReset(t, "P16.5: no size, and above the limit", r, api.MaxNumber+1, api.ErrArg)
	refusedReset(t, "P16.5: above the limit, and against the final size", r, 10, api.ErrRecvLimit)
	refusedReset(t, "P16.5: against the final size, at the limit", r, 9, api.ErrRecvFinal)
}

// Once it has ended pieces are looked at as ever, and nothing comes of them.
func TestTakeBehindTheEnd(t *testing.T) {
	r := made(t, 9)
	take(t, "P16.7", r, 0, "abcdef.", 6)
	read(t, "P16.7", r, 6, "abcdef.")
	const ended = "9: 6 6 6 0 0-5 Ended"
	for range 2 {
		take(t, "P16.7: behind the end", r, 0, "abcdef.", 0)
		take(t, "P16.7: behind the end", r, 2, "xyz", 0)
		take(t, "P16.7: behind the end", r, 6, "", 0)
		take(t, "P16.7: behind the end", r, 6, ".", 0)
		take(t, "P16.7: behind the end", r, 0, "", 0)
		refused(t, "P16.7: behind the end", r, -1, "a", api.ErrArg)
		refused(t, "P16.7: behind the end", r, 9, "a", api.ErrRecvLimit)
		refused(t, "P16.7: behind the end", r, 6, "g", api.ErrRecvFinal)
		refused(t, "P16.7: behind the end", r, 0, "abc.", api.ErrRecvFinal)
		views(t, "P16.7: behind the end", r, ended)
		read(t, "P16.7: behind the end", r, 9, ".")
	}
}
