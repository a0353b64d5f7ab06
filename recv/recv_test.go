package recv

import (
	"fmt"
	"math"
	"strings"
	"testing"

	"portage/api"
)

// made is a new one.
func made(t *testing.T, limit int64) *Recv {
	t.Helper()
	r, err := New(limit)
	if r == nil || err != api.OK {
		t.Fatalf("P16.1: New(%d) = %v, %d", limit, r, err)
	}
	return r
}

// cut makes of a text as the chapter's table has it a piece: a "." behind it is fin.
func cut(text string) ([]byte, bool) {
	text, fin := strings.CutSuffix(text, ".")
	return []byte(text), fin
}

// take takes a piece that must be taken.
func take(t *testing.T, say string, r *Recv, off int64, text string, want int64) {
	t.Helper()
	data, fin := cut(text)
	if rise, err := r.Take(off, data, fin); rise != want || err != api.OK {
		t.Errorf("%s: Take(%d, %.20s) = %d, %d, want %d, OK", say, off, text, rise, err, want)
	}
}

// refused takes a piece that must be refused: nothing changes.
func refused(t *testing.T, say string, r *Recv, off int64, text string, want api.Errno) {
	t.Helper()
	ahead := view(r)
	data, fin := cut(text)
	if rise, err := r.Take(off, data, fin); rise != 0 || err != want {
		t.Errorf("%s: Take(%d, %.20s) = %d, %d, want 0, %d", say, off, text, rise, err, want)
	}
	views(t, say+": P16.7", r, ahead)
}

// read reads: the bytes, and a "." behind them where true is told.
func read(t *testing.T, say string, r *Recv, most int, want string) {
	t.Helper()
	if got := told(r.Read(most)); got != want {
		t.Errorf("%s: Read(%d) = %.40q, want %.40q", say, most, got, want)
	}
}

func told(data []byte, end bool) string {
	if end {
		return string(data) + "."
	}
	return string(data)
}

// reset is a reset that must be taken.
func reset(t *testing.T, say string, r *Recv, final, want int64) {
	t.Helper()
	if rise, err := r.Reset(final); rise != want || err != api.OK {
		t.Errorf("%s: Reset(%d) = %d, %d, want %d, OK", say, final, rise, err, want)
	}
}

// refusedReset is a reset that must be refused: nothing changes.
func refusedReset(t *testing.T, say string, r *Recv, final int64, want api.Errno) {
	t.Helper()
	ahead := view(r)
	if rise, err := r.Reset(final); rise != 0 || err != want {
		t.Errorf("%s: Reset(%d) = %d, %d, want 0, %d", say, final, rise, err, want)
	}
	views(t, say+": P16.7", r, ahead)
}

// tell tells a view: the limit, Read, High, Final and Held, the runs, and what is true of it.
func tell(v api.RecvView) string {
	l := []string{fmt.Sprintf("%d: %d %d %d %d", v.Limit, v.Read, v.High, v.Final, v.Held)}
	for _, x := range v.Runs {
		l = append(l, fmt.Sprintf("%d-%d", x.Lo, x.Hi))
	}
	if v.Ended {
		l = append(l, "Ended")
	}
	if v.Reset {
		l = append(l, "Reset")
	}
	return strings.Join(l, " ")
}

func view(r *Recv) string { return tell(r.View()) }

func views(t *testing.T, say string, r *Recv, want string) {
	t.Helper()
	if got := view(r); got != want {
		t.Errorf("%s: View: %s, want %s", say, got, want)
	}
}

func TestExamples(t *testing.T) {
	r := made(t, 10)
	views(t, "Examples", r, "10: 0 0 -1 0")
	take(t, "Examples", r, 4, "ef", 6)
	views(t, "Examples", r, "10: 0 6 -1 2 4-5")
	take(t, "Examples", r, 2, "XYZ", 0)
	views(t, "Examples", r, "10: 0 6 -1 4 2-5")
	read(t, "Examples", r, 9, "")
	views(t, "Examples", r, "10: 0 6 -1 4 2-5")
	take(t, "Examples", r, 0, "ab", 0)
	read(t, "Examples", r, 3, "abX")
	views(t, "Examples", r, "10: 3 6 -1 3 0-5")
	refused(t, "Examples", r, 8, "ijk", api.ErrRecvLimit)
	take(t, "Examples", r, 8, "i.", 3)
	views(t, "Examples", r, "10: 3 9 9 4 0-5 8-8")
	refused(t, "Examples", r, 9, "j", api.ErrRecvFinal)
	refused(t, "Examples", r, 6, "gh.", api.ErrRecvFinal)
	take(t, "Examples", r, 8, "i.", 0)
	take(t, "Examples", r, 9, "", 0)
	views(t, "Examples", r, "10: 3 9 9 4 0-5 8-8")
	take(t, "Examples", r, 6, "gh", 0)
	read(t, "Examples", r, 100, "Yefghi.")
	read(t, "Examples", r, 1, ".")
	views(t, "Examples", r, "10: 9 9 9 0 0-8 Ended")
	reset(t, "Examples", r, 9, 0)
	refusedReset(t, "Examples", r, 8, api.ErrRecvFinal)
	views(t, "Examples", r, "10: 9 9 9 0 0-8 Ended")
}

func TestExamplesOfReset(t *testing.T) {
	r := made(t, 10)
	take(t, "Examples", r, 0, "abc", 3)
	refusedReset(t, "Examples", r, 2, api.ErrRecvFinal)
	refusedReset(t, "Examples", r, 11, api.ErrRecvLimit)
	reset(t, "Examples", r, 7, 4)
	read(t, "Examples", r, 9, "")
	views(t, "Examples", r, "10: 0 7 7 0 Reset")
	take(t, "Examples", r, 0, "abc", 0)
	refused(t, "Examples", r, 6, "xy", api.ErrRecvFinal)
	r.Raise(5)
	views(t, "Examples", r, "10: 0 7 7 0 Reset")
	r.Raise(20)
	views(t, "Examples", r, "20: 0 7 7 0 Reset")
}

func TestNew(t *testing.T) {
	for _, limit := range []int64{math.MinInt64, -api.MaxNumber, -2, -1, api.MaxNumber + 1, api.MaxNumber + 2, math.MaxInt64} {
		if r, err := New(limit); r != nil || err != api.ErrArg {
			t.Errorf("P16.1: New(%d) = %v, %d, want nil, ErrArg", limit, r, err)
		}
	}
	for _, limit := range []int64{0, 1, 2, 65536, api.MaxNumber - 1, api.MaxNumber} {
		r := made(t, limit)
		views(t, "P16.1", r, fmt.Sprintf("%d: 0 0 -1 0", limit))
		read(t, "P16.1", r, math.MaxInt, "")
		views(t, "P16.1", r, fmt.Sprintf("%d: 0 0 -1 0", limit))
		take(t, "P16.1: up to the limit", r, limit, "", limit)
		if limit < api.MaxNumber {
			refused(t, "P16.1: one more than the limit", r, limit, "x", api.ErrRecvLimit)
		}
	}
}

// A limit of 0 lets a stream without a byte come, and no other one.
func TestLimitOfNothing(t *testing.T) {
	r := made(t, 0)
	refused(t, "P16.2", r, 0, "a", api.ErrRecvLimit)
	refused(t, "P16.2", r, 0, "a.", api.ErrRecvLimit)
	refused(t, "P16.2", r, 1, "", api.ErrRecvLimit)
	refusedReset(t, "P16.5", r, 1, api.ErrRecvLimit)
	take(t, "P16.2", r, 0, "", 0)
	views(t, "P16.2", r, "0: 0 0 -1 0")
	take(t, "P16.2", r, 0, ".", 0)
	views(t, "P16.2", r, "0: 0 0 0 0")
	read(t, "P16.3", r, 0, ".")
	views(t, "P16.3", r, "0: 0 0 0 0 Ended")
	r = made(t, 0)
	reset(t, "P16.5", r, 0, 0)
	views(t, "P16.5", r, "0: 0 0 0 0 Reset")
}

func TestRaise(t *testing.T) {
	r := made(t, 10)
	for _, limit := range []int64{math.MinInt64, -1, 0, 1, 9, 10} {
		r.Raise(limit)
		views(t, "P16.4: the limit never falls", r, "10: 0 0 -1 0")
	}
	refused(t, "P16.4", r, 5, "abcdef", api.ErrRecvLimit)
	r.Raise(11)
	views(t, "P16.4", r, "11: 0 0 -1 0")
	take(t, "P16.4", r, 5, "abcdef", 11)
	refused(t, "P16.4", r, 11, "g", api.ErrRecvLimit)
	r.Raise(api.MaxNumber - 1)
	views(t, "P16.4", r, fmt.Sprintf("%d: 0 11 -1 6 5-10", api.MaxNumber-1))
	r.Raise(api.MaxNumber)
	views(t, "P16.4", r, fmt.Sprintf("%d: 0 11 -1 6 5-10", api.MaxNumber))
	for _, limit := range []int64{api.MaxNumber + 1, math.MaxInt64, 10, math.MinInt64} {
		r.Raise(limit)
		views(t, "P16.4: at MaxNumber", r, fmt.Sprintf("%d: 0 11 -1 6 5-10", api.MaxNumber))
	}
	for _, limit := range []int64{api.MaxNumber + 1, math.MaxInt64 - 1, math.MaxInt64} {
		r = made(t, 3)
		r.Raise(limit)
		views(t, "P16.4: above MaxNumber", r, fmt.Sprintf("%d: 0 0 -1 0", api.MaxNumber))
	}
}

// The limit alone changes, also where the stream has ended or was reset.
func TestRaiseInEachState(t *testing.T) {
	r := made(t, 6)
	take(t, "P16.4", r, 0, "abc.", 3)
	r.Raise(7)
	views(t, "P16.4: all has come", r, "7: 0 3 3 3 0-2")
	read(t, "P16.4", r, 9, "abc.")
	r.Raise(8)
	views(t, "P16.4: it has ended", r, "8: 3 3 3 0 0-2 Ended")
	r = made(t, 6)
	reset(t, "P16.4", r, 6, 6)
	r.Raise(7)
	views(t, "P16.4: it was reset", r, "7: 0 6 6 0 Reset")
	refused(t, "P16.4: the final size stays", r, 6, "x", api.ErrRecvFinal)
}
