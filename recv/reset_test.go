package recv

import (
	"fmt"
	"math"
	"testing"

	"portage/api"
)

// staysReset fails if anything comes of one of 10 that was reset at 7 any more.
func staysReset(t *testing.T, say string, r *Recv, want string) {
	t.Helper()
	for range 2 {
		views(t, say, r, want)
		for _, most := range []int{math.MinInt, -1, 0, 1, 9, math.MaxInt} {
			read(t, "P16.3: "+say, r, most, "")
		}
		for _, text := range []string{"", "abcdefg", "ab", "abcdefg."} {
			take(t, "P16.2: "+say, r, 0, text, 0)
		}
		take(t, "P16.2: "+say, r, 3, "def", 0)
		take(t, "P16.2: "+say, r, 7, "", 0)
		take(t, "P16.2: "+say, r, 7, ".", 0)
		refused(t, "P16.2: "+say, r, -1, "a", api.ErrArg)
		refused(t, "P16.2: "+say, r, 10, "k", api.ErrRecvLimit)
		refused(t, "P16.2: "+say, r, 6, "gh", api.ErrRecvFinal)
		refused(t, "P16.2: "+say, r, 8, "", api.ErrRecvFinal)
		refused(t, "P16.2: "+say, r, 0, "abc.", api.ErrRecvFinal)
		reset(t, "P16.5: twice: "+say, r, 7, 0)
		refusedReset(t, "P16.5: twice: "+say, r, -1, api.ErrArg)
		refusedReset(t, "P16.5: twice: "+say, r, 11, api.ErrRecvLimit)
		refusedReset(t, "P16.5: twice: "+say, r, 6, api.ErrRecvFinal)
		refusedReset(t, "P16.5: twice: "+say, r, 8, api.ErrRecvFinal)
	}
	views(t, say, r, want)
	if r.held != nil {
		t.Errorf("P16.5: %s: %d pieces are held", say, len(r.held))
	}
}

func TestReset(t *testing.T) {
	r := made(t, 10)
	reset(t, "P16.5: nothing has come", r, 7, 7)
	staysReset(t, "nothing has come", r, "10: 0 7 7 0 Reset")

	r = made(t, 10)
	take(t, "P16.5", r, 1, "bc", 3)
	take(t, "P16.5", r, 4, "e", 2)
	reset(t, "P16.5: bytes are held", r, 7, 2)
	staysReset(t, "bytes are held", r, "10: 0 7 7 0 Reset")

	r = made(t, 10)
	take(t, "P16.5", r, 0, "abcd", 4)
	read(t, "P16.5", r, 3, "abc")
	take(t, "P16.5", r, 5, "f", 2)
	reset(t, "P16.5: some were read", r, 7, 1)
	staysReset(t, "some were read", r, "10: 3 7 7 0 0-2 Reset")

	r = made(t, 10)
	take(t, "P16.5", r, 0, "abcdefg", 7)
	reset(t, "P16.5: at High", r, 7, 0)
	staysReset(t, "at High", r, "10: 0 7 7 0 Reset")

	r = made(t, 10)
	take(t, "P16.5", r, 7, "", 7)
	reset(t, "P16.5: at High, without a byte", r, 7, 0)
	staysReset(t, "at High, without a byte", r, "10: 0 7 7 0 Reset")
}

// The final size is known, and the stream has not ended: it is reset all the same.
func TestResetAheadOfTheEnd(t *testing.T) {
	r := made(t, 10)
	take(t, "P16.5", r, 3, "defg.", 7)
	reset(t, "P16.5: some bytes have come, and the fin", r, 7, 0)
	staysReset(t, "some bytes have come, and the fin", r, "10: 0 7 7 0 Reset")

	r = made(t, 10)
	take(t, "P16.5", r, 0, "abcdefg.", 7)
	reset(t, "P16.5: all bytes have come", r, 7, 0)
	staysReset(t, "all bytes have come", r, "10: 0 7 7 0 Reset")

	r = made(t, 10)
	take(t, "P16.5", r, 0, "abcdefg.", 7)
	read(t, "P16.5", r, 6, "abcdef")
	reset(t, "P16.5: all bytes but one were read", r, 7, 0)
	staysReset(t, "all bytes but one were read", r, "10: 6 7 7 0 0-5 Reset")

	r = made(t, 10)
	take(t, "P16.5", r, 0, "abcdefg", 7)
	read(t, "P16.5", r, 9, "abcdefg")
	take(t, "P16.5", r, 7, ".", 0)
	reset(t, "P16.5: all bytes were read, and true wasn't told", r, 7, 0)
	staysReset(t, "all bytes were read, and true wasn't told", r, "10: 7 7 7 0 0-6 Reset")

	r = made(t, 10)
	take(t, "P16.5", r, 0, "abcdefg", 7)
	read(t, "P16.5", r, 9, "abcdefg")
	reset(t, "P16.5: all bytes were read, and no fin came", r, 7, 0)
	staysReset(t, "all bytes were read, and no fin came", r, "10: 7 7 7 0 0-6 Reset")
}

func TestResetOnceItHasEnded(t *testing.T) {
	for _, text := range []string{"", "a", "abcdefg"} {
		r, n := made(t, 10), int64(len(text))
		take(t, "P16.5", r, 0, text+".", n)
		read(t, "P16.5", r, 9, text+".")
		ended := view(r)
		for range 2 {
			reset(t, "P16.5: it has ended", r, n, 0)
			views(t, "P16.5: it stays ended", r, ended)
			read(t, "P16.3: it stays ended", r, 9, ".")
			refusedReset(t, "P16.5: it has ended", r, -1, api.ErrArg)
			refusedReset(t, "P16.5: it has ended", r, api.MaxNumber+1, api.ErrArg)
			refusedReset(t, "P16.5: it has ended", r, 11, api.ErrRecvLimit)
			refusedReset(t, "P16.5: it has ended", r, n+1, api.ErrRecvFinal)
			if n > 0 {
				refusedReset(t, "P16.5: it has ended", r, n-1, api.ErrRecvFinal)
			}
			take(t, "P16.7: it has ended", r, 0, text+".", 0)
			views(t, "P16.5: it stays ended", r, ended)
		}
	}
}

func TestResetRefused(t *testing.T) {
	for _, final := range []int64{math.MinInt64, math.MinInt64 + 1, -api.MaxNumber, -1, api.MaxNumber + 1, math.MaxInt64 - 1, math.MaxInt64} {
		for _, limit := range []int64{0, 10, api.MaxNumber} {
			refusedReset(t, "P16.5", made(t, limit), final, api.ErrArg)
		}
	}
	r := made(t, 10)
	refusedReset(t, "P16.5: one above the limit", r, 11, api.ErrRecvLimit)
	refusedReset(t, "P16.5: at MaxNumber", r, api.MaxNumber, api.ErrRecvLimit)
	take(t, "P16.5", r, 2, "cd", 4)
	for final := range int64(4) {
		refusedReset(t, "P16.5: below High", r, final, api.ErrRecvFinal)
	}
	take(t, "P16.5", r, 6, "", 2)
	refusedReset(t, "P16.5: below High, above all bytes that have come", r, 5, api.ErrRecvFinal)
	take(t, "P16.5", r, 0, "ab", 0)
	read(t, "P16.5: what is refused lets nothing go", r, 9, "abcd")
	take(t, "P16.5", r, 8, ".", 2)
	for _, final := range []int64{0, 7, 9, 10} {
		refusedReset(t, "P16.5: another final size is known", r, final, api.ErrRecvFinal)
	}
	reset(t, "P16.5: the one that is known", r, 8, 0)
	views(t, "P16.5: the one that is known", r, "10: 4 8 8 0 0-3 Reset")
}

func TestResetAtTheLimit(t *testing.T) {
	for _, limit := range []int64{0, 1, 10, api.MaxNumber} {
		r := made(t, limit)
		reset(t, "P16.5: at the limit", r, limit, limit)
		views(t, "P16.5: at the limit", r, fmt.Sprintf("%d: 0 %d %d 0 Reset", limit, limit, limit))
	}
	r := made(t, 10)
	r.Raise(12)
	refusedReset(t, "P16.5: above the raised limit", r, 13, api.ErrRecvLimit)
	reset(t, "P16.5: at the raised limit", r, 12, 12)
	r = made(t, 10)
	reset(t, "P16.5: a stream without a byte", r, 0, 0)
	views(t, "P16.5: a stream without a byte", r, "10: 0 0 0 0 Reset")
	read(t, "P16.3: Read is the final size", r, 9, "")
	views(t, "P16.3: Read is the final size", r, "10: 0 0 0 0 Reset")
}
