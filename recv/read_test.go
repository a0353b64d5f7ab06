package recv

import (
	"math"
	"testing"

	"portage/api"
)

func TestRead(t *testing.T) {
	r := made(t, 20)
	for _, most := range []int{math.MinInt, -1, 0, 1, 7, math.MaxInt} {
		read(t, "P16.3: nothing has come", r, most, "")
	}
	take(t, "P16.3", r, 0, "abc", 3)
	take(t, "P16.3", r, 3, "de", 2)
	take(t, "P16.3", r, 5, "fghi", 4)
	for _, most := range []int{math.MinInt, -7, -1, 0} {
		read(t, "P16.3: none, if most is below 1", r, most, "")
		views(t, "P16.3: none, if most is below 1", r, "20: 0 9 -1 9 0-8")
	}
	read(t, "P16.3: one", r, 1, "a")
	views(t, "P16.3: one", r, "20: 1 9 -1 8 0-8")
	read(t, "P16.3: to a piece's end", r, 2, "bc")
	views(t, "P16.3: to a piece's end", r, "20: 3 9 -1 6 0-8")
	read(t, "P16.3: one whole and of another some", r, 4, "defg")
	views(t, "P16.3: one whole and of another some", r, "20: 7 9 -1 2 0-8")
	read(t, "P16.3: more than there are", r, 3, "hi")
	views(t, "P16.3: more than there are", r, "20: 9 9 -1 0 0-8")
	read(t, "P16.3: all were read", r, math.MaxInt, "")
	take(t, "P16.3", r, 9, "jk", 2)
	read(t, "P16.3: just as many", r, 2, "jk")
	views(t, "P16.3: just as many", r, "20: 11 11 -1 0 0-10")
}

// Over several pieces that came in any order, as many as are asked for, from wherever Read stands.
func TestReadOfEachLength(t *testing.T) {
	const text = "abcdefghijkl"
	for first := range len(text) + 1 {
		for most := range len(text) + 3 {
			r := made(t, 20)
			for _, c := range [][2]int{{7, 9}, {0, 1}, {3, 7}, {1, 3}, {9, 12}} {
				r.Take(int64(c[0]), []byte(text[c[0]:c[1]]), c[1] == len(text))
			}
			dot := func(end int) string {
				if end == len(text) {
					return "."
				}
				return ""
			}
			behind := min(first+most, len(text))
			read(t, "P16.3", r, first, text[:first]+dot(first))
			read(t, "P16.3", r, most, text[first:behind]+dot(behind))
			read(t, "P16.3", r, math.MaxInt, text[behind:]+".")
			views(t, "P16.3", r, "20: 12 12 12 0 0-11 Ended")
		}
	}
}

// Bytes behind a hole aren't read, and stay till it is filled.
func TestReadWithAHoleAhead(t *testing.T) {
	r := made(t, 20)
	take(t, "P16.3", r, 1, "bc", 3)
	take(t, "P16.3", r, 5, "f.", 3)
	for _, most := range []int{1, 2, 9, math.MaxInt} {
		read(t, "P16.3: a hole is ahead of it", r, most, "")
		views(t, "P16.3: a hole is ahead of it", r, "20: 0 6 6 3 1-2 5-5")
	}
	take(t, "P16.3", r, 0, "a", 0)
	read(t, "P16.3: up to the next hole", r, math.MaxInt, "abc")
	views(t, "P16.3: up to the next hole", r, "20: 3 6 6 1 0-2 5-5")
	take(t, "P16.3: some of the hole", r, 4, "e", 0)
	read(t, "P16.3: a hole of one byte", r, math.MaxInt, "")
	take(t, "P16.3: the rest of the hole", r, 3, "d", 0)
	read(t, "P16.3", r, 2, "de")
	read(t, "P16.3", r, math.MaxInt, "f.")
}

func TestTrueAtTheFinalSizeAlone(t *testing.T) {
	r := made(t, 20)
	take(t, "P16.3", r, 0, "abc", 3)
	read(t, "P16.3: no final size is known", r, 9, "abc")
	views(t, "P16.3: no final size is known", r, "20: 3 3 -1 0 0-2")
	take(t, "P16.3", r, 6, ".", 3)
	read(t, "P16.3: the last bytes haven't come", r, 9, "")
	take(t, "P16.3", r, 3, "de", 0)
	read(t, "P16.3: the last byte hasn't come", r, 9, "de")
	take(t, "P16.3", r, 5, "f", 0)
	views(t, "P16.6: all has come", r, "20: 5 6 6 1 0-5")
	read(t, "P16.3: the last byte wasn't read", r, 0, "")
	views(t, "P16.6: the last byte wasn't read", r, "20: 5 6 6 1 0-5")
	read(t, "P16.3: with the last byte", r, 1, "f.")
	for _, most := range []int{math.MinInt, -1, 0, 1, 9, math.MaxInt} {
		views(t, "P16.6: it has ended", r, "20: 6 6 6 0 0-5 Ended")
		read(t, "P16.3: again and again", r, most, ".")
	}
}

// That the final size is known, or Read has come to it, doesn't end a stream: a Read that tells true does.
func TestEndedWithTheReadThatTellsIt(t *testing.T) {
	for _, most := range []int{math.MinInt, -1, 0, 1, math.MaxInt} {
		r := made(t, 20)
		take(t, "P16.6", r, 0, "abc", 3)
		read(t, "P16.6", r, 3, "abc")
		take(t, "P16.6: the fin comes alone, when all was read", r, 3, ".", 0)
		views(t, "P16.6: Read has come to the final size", r, "20: 3 3 3 0 0-2")
		take(t, "P16.6", r, 0, "abc.", 0)
		refused(t, "P16.6", r, 3, "d", api.ErrRecvFinal)
		views(t, "P16.6: Read has come to the final size", r, "20: 3 3 3 0 0-2")
		read(t, "P16.3: whatever most is", r, most, ".")
		views(t, "P16.6: it has ended", r, "20: 3 3 3 0 0-2 Ended")
	}
	r := made(t, 20)
	take(t, "P16.6: no byte at all", r, 0, ".", 0)
	views(t, "P16.6: no byte at all", r, "20: 0 0 0 0")
	read(t, "P16.6: no byte at all", r, 1, ".")
	views(t, "P16.6: no byte at all", r, "20: 0 0 0 0 Ended")
}
