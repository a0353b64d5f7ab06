package pnum

import (
	"math"
	"math/big"
	"testing"

	"portage/api"
)

const most = api.MaxNumber

var widths = []int{1, 2, 3, 4}

// wrongWidths are none of 1 to 4; some of them would be one of these if they were cut to a byte or to 32 bits.
var wrongWidths = []int{math.MinInt, -1 << 32, -256, -3, -1, 0, 5, 6, 7, 8, 9, 64, 256, 257, 260, 1<<32 + 1, math.MaxInt}

// half is H of P3.4.
func half(width int) int64 { return 1 << (8*width - 1) }

// strewn gives numbers of all magnitudes, the same ones at each run.
func strewn(n int) []uint64 {
	l := make([]uint64, n)
	x := uint64(3)
	for i := range l {
		x = x*6364136223846793005 + 1442695040888963407
		l[i] = x >> ((x >> 8) % 64)
	}
	return l
}

// places are packet numbers on both sides of every power of two, both ends among them, and some strewn between.
func places() []int64 {
	l := []int64{0, 300, 70000, 990000, 1000000, most - 300, most - 1, most}
	for i := range 62 {
		p := int64(1) << i
		l = append(l, p-1, p, p+1, most-p, most-p+1)
	}
	for _, x := range strewn(500) {
		l = append(l, int64(x%(1<<62)))
	}
	return l
}

func checkWidth(t *testing.T, number, acked int64, want int, err api.Errno) {
	t.Helper()
	if got, e := Width(number, acked); got != want || e != err {
		t.Errorf("P3.1: Width(%d, %d) = %d, %d, want %d, %d", number, acked, got, e, want, err)
	}
}

func checkCut(t *testing.T, number int64, width int, want uint32, err api.Errno) {
	t.Helper()
	if got, e := Cut(number, width); got != want || e != err {
		t.Errorf("P3.2: Cut(%d, %d) = %d, %d, want %d, %d", number, width, got, e, want, err)
	}
}

func checkWhole(t *testing.T, largest int64, low uint32, width int, want int64, err api.Errno) {
	t.Helper()
	if got, e := Whole(largest, low, width); got != want || e != err {
		t.Errorf("P3.3: Whole(%d, %d, %d) = %d, %d, want %d, %d", largest, low, width, got, e, want, err)
	}
}

func TestExamples(t *testing.T) {
	checkWidth(t, 0, -1, 1, api.OK)
	checkWidth(t, 127, -1, 1, api.OK)
	checkWidth(t, 128, -1, 2, api.OK)
	checkWidth(t, 200, 72, 1, api.OK)
	checkWidth(t, 201, 72, 2, api.OK)
	checkWidth(t, 1000000, 990000, 2, api.OK)
	checkWidth(t, 1100000, 990000, 3, api.OK)
	checkWidth(t, 2147483647, -1, 4, api.OK)
	checkWidth(t, 2147483648, -1, 0, api.ErrPnumFar)
	checkWidth(t, 5, 5, 0, api.ErrArg)
	checkWidth(t, 5, -2, 0, api.ErrArg)
	checkWidth(t, 1<<62, 7, 0, api.ErrArg)
	checkCut(t, 1000000, 2, 0x4240, api.OK)
	checkCut(t, 1000000, 1, 64, api.OK)
	checkWhole(t, -1, 5, 1, 5, api.OK)
	checkWhole(t, 0, 255, 1, 255, api.OK)
	checkWhole(t, 300, 2, 1, 258, api.OK)
	checkWhole(t, 300, 173, 1, 429, api.OK)
	checkWhole(t, 70000, 60, 2, 65596, api.OK)
	checkWhole(t, 70000, 40000, 2, 40000, api.OK)
	checkWhole(t, most, 0, 1, 1<<62-256, api.OK)
	checkWhole(t, 7, 256, 1, 0, api.ErrArg)
	checkWhole(t, 7, 0, 5, 0, api.ErrArg)
	checkWhole(t, -2, 0, 1, 0, api.ErrArg)
}

// TestWidthAtItsBounds: twice the way just at 2^(8 width), and one beyond, from the least acked to the greatest that leaves room.
func TestWidthAtItsBounds(t *testing.T) {
	for _, width := range widths {
		h := half(width)
		for _, acked := range []int64{-1, 0, 1, 72, h, 1 << 40, most - h - 2, most - h - 1} {
			checkWidth(t, acked+h-1, acked, width, api.OK)
			checkWidth(t, acked+h, acked, width, api.OK)
			if width == 4 {
				checkWidth(t, acked+h+1, acked, 0, api.ErrPnumFar)
			} else {
				checkWidth(t, acked+h+1, acked, width+1, api.OK)
			}
		}
		checkWidth(t, most, most-h, width, api.OK)
	}
	checkWidth(t, most, most-1, 1, api.OK)
	checkWidth(t, 1, 0, 1, api.OK)
}

func TestWidthThatDoesNotSuffice(t *testing.T) {
	for _, acked := range []int64{-1, 0, 1, 1 << 31, 1 << 61, most - 1<<31 - 1} {
		checkWidth(t, acked+1<<31+1, acked, 0, api.ErrPnumFar)
		checkWidth(t, most, acked, 0, api.ErrPnumFar)
	}
	// Twice this way is 2^63, beyond an int64.
	checkWidth(t, most, -1, 0, api.ErrPnumFar)
	checkWidth(t, 1<<61, -1, 0, api.ErrPnumFar)
	checkWidth(t, 1<<32, 0, 0, api.ErrPnumFar)
}

func TestWidthOfWhatMayNotBe(t *testing.T) {
	for _, acked := range []int64{-2, -3, -255, -1 << 40, math.MinInt64} {
		for _, number := range []int64{math.MinInt64, -2, -1, 0, 1, 5, most, most + 1, math.MaxInt64} {
			checkWidth(t, number, acked, 0, api.ErrArg)
		}
	}
	for _, acked := range []int64{-1, 0, 1, 5, 1 << 40, most - 1, most, most + 1, math.MaxInt64} {
		checkWidth(t, acked, acked, 0, api.ErrArg)
		checkWidth(t, acked-1, acked, 0, api.ErrArg)
		checkWidth(t, -1, acked, 0, api.ErrArg)
		checkWidth(t, math.MinInt64, acked, 0, api.ErrArg)
		// These are too far ahead as well, but for the last ones; what may not be is told first.
		checkWidth(t, most+1, acked, 0, api.ErrArg)
		checkWidth(t, math.MaxInt64, acked, 0, api.ErrArg)
	}
	checkWidth(t, most, most, 0, api.ErrArg)
	checkWidth(t, most+1, most, 0, api.ErrArg)
}

// widthTold is P3.1 said again, in numbers without an end.
func widthTold(number, acked int64) (int, api.Errno) {
	twice := new(big.Int).Sub(big.NewInt(number), big.NewInt(acked))
	twice.Lsh(twice, 1)
	for _, width := range widths {
		if twice.Cmp(new(big.Int).Lsh(big.NewInt(1), uint(8*width))) <= 0 {
			return width, api.OK
		}
	}
	return 0, api.ErrPnumFar
}

func TestWidthLikeItsWords(t *testing.T) {
	all := append(places(), -1)
	for i, number := range all {
		for _, acked := range all[i%3:] {
			if number <= acked {
				checkWidth(t, number, acked, 0, api.ErrArg)
				continue
			}
			want, err := widthTold(number, acked)
			checkWidth(t, number, acked, want, err)
		}
	}
}

func TestCut(t *testing.T) {
	for _, c := range []struct {
		number int64
		width  int
		want   uint32
	}{
		{0, 1, 0}, {0, 4, 0}, {1, 1, 1}, {255, 1, 255}, {256, 1, 0}, {257, 1, 1},
		{65535, 2, 65535}, {65536, 2, 0}, {65537, 2, 1}, {65536, 3, 65536},
		{1<<24 - 1, 3, 1<<24 - 1}, {1 << 24, 3, 0}, {1 << 24, 4, 1 << 24},
		{1<<32 - 1, 4, 1<<32 - 1}, {1 << 32, 4, 0}, {1<<32 + 1, 4, 1},
		{0x0123456789abcdef, 1, 0xef}, {0x0123456789abcdef, 2, 0xcdef},
		{0x0123456789abcdef, 3, 0xabcdef}, {0x0123456789abcdef, 4, 0x89abcdef},
		{most, 1, 0xff}, {most, 2, 0xffff}, {most, 3, 0xffffff}, {most, 4, 0xffffffff},
		{most - 1, 1, 0xfe}, {most - 1, 4, 0xfffffffe},
	} {
		checkCut(t, c.number, c.width, c.want, api.OK)
	}
}

// TestCutIsTheLowestBytes takes the bytes one by one.
func TestCutIsTheLowestBytes(t *testing.T) {
	for _, number := range places() {
		want := uint32(0)
		for i, width := range widths {
			want += uint32(byte(number>>(8*i))) << (8 * i)
			checkCut(t, number, width, want, api.OK)
		}
	}
}

func TestCutOfWhatMayNotBe(t *testing.T) {
	for _, width := range widths {
		for _, number := range []int64{math.MinInt64, -1 << 32, -256, -2, -1, most + 1, most + 2, math.MaxInt64} {
			checkCut(t, number, width, 0, api.ErrArg)
		}
	}
	for _, width := range wrongWidths {
		for _, number := range []int64{math.MinInt64, -1, 0, 1, 1000000, most, most + 1} {
			checkCut(t, number, width, 0, api.ErrArg)
		}
	}
}

func TestWholeOfNone(t *testing.T) {
	for _, width := range widths {
		last := uint32(2*half(width) - 1)
		// Nothing lies below 0: all of the first stretch is meant, however far it is.
		for _, low := range []uint32{0, 1, 5, last/2 - 1, last / 2, last/2 + 1, last/2 + 2, last - 1, last} {
			checkWhole(t, -1, low, width, int64(low), api.OK)
			checkWhole(t, 0, low, width, whole(0, low, width), api.OK)
		}
	}
	checkWhole(t, 0, 0, 1, 0, api.OK)
	checkWhole(t, 0, 129, 1, 129, api.OK)
}

// TestWholeAtTheEnd: nothing lies above MaxNumber, so the last stretch is meant, however far it is.
func TestWholeAtTheEnd(t *testing.T) {
	for _, width := range widths {
		h := half(width)
		last := uint32(2*h - 1)
		for _, low := range []uint32{0, 1, 5, last / 2, last/2 + 1, last - 1, last} {
			want := int64(most) - int64(last) + int64(low)
			checkWhole(t, most, low, width, want, api.OK)
			checkWhole(t, most-1, low, width, want, api.OK)
			checkWhole(t, most-h+1, low, width, want, api.OK)
		}
		// From one before the middle of the last stretch, its last number is half a stretch ahead: equally near as the one before.
		checkWhole(t, most-h-1, last, width, most, api.OK)
		checkWhole(t, most-h-2, last, width, most-2*h, api.OK)
	}
}

// TestWholeOfTwoEquallyNear: the greater one, from many places; and one step to either side of it the nearer one.
func TestWholeOfTwoEquallyNear(t *testing.T) {
	for _, width := range widths {
		h := half(width)
		for _, largest := range []int64{h - 1, h, h + 1, 2*h - 1, 2 * h, 3*h + 7, 1<<40 + 173, most - 3*h, most - h - 2, most - h - 1} {
			next := largest + 1
			low, _ := Cut(next+h, width)
			checkWhole(t, largest, low, width, next+h, api.OK)
			checkWhole(t, largest+1, low, width, next+h, api.OK)
			if largest > h-1 {
				checkWhole(t, largest-1, low, width, next-h, api.OK)
			}
		}
	}
}

func TestWholeOfWhatMayNotBe(t *testing.T) {
	for _, width := range widths {
		for _, largest := range []int64{math.MinInt64, -1 << 32, -257, -256, -3, -2, most + 1, most + 2, math.MaxInt64} {
			checkWhole(t, largest, 0, width, 0, api.ErrArg)
			checkWhole(t, largest, 1, width, 0, api.ErrArg)
			checkWhole(t, largest, math.MaxUint32, width, 0, api.ErrArg)
		}
	}
	for _, largest := range []int64{-1, 0, 7, 300, 1 << 40, most} {
		for _, width := range wrongWidths {
			checkWhole(t, largest, 0, width, 0, api.ErrArg)
			checkWhole(t, largest, 255, width, 0, api.ErrArg)
			checkWhole(t, largest, math.MaxUint32, width, 0, api.ErrArg)
		}
		for _, width := range []int{1, 2, 3} {
			beyond := uint32(2 * half(width))
			for _, low := range []uint32{beyond, beyond + 1, 2 * beyond, 1 << 31, math.MaxUint32} {
				checkWhole(t, largest, low, width, 0, api.ErrArg)
			}
			if _, err := Whole(largest, beyond-1, width); err != api.OK {
				t.Errorf("P3.3: Whole(%d, %d, %d) answers %d, but low fits", largest, beyond-1, width, err)
			}
		}
		if _, err := Whole(largest, math.MaxUint32, 4); err != api.OK {
			t.Errorf("P3.3: Whole(%d, 2^32 - 1, 4) answers %d, but low fits", largest, err)
		}
	}
}

// whole is P3.3 reckoned another way, in numbers without an end: how many stretches lie below the number, rounded, the half upwards, and held within 0 to MaxNumber.
func whole(largest int64, low uint32, width int) int64 {
	span := new(big.Int).Lsh(big.NewInt(1), uint(8*width))
	stretches := big.NewInt(largest)
	stretches.Add(stretches, big.NewInt(1-int64(low)+half(width)))
	stretches.Div(stretches, span) // rounds down, below 0 too
	if stretches.Sign() < 0 {
		stretches.SetInt64(0)
	}
	last := new(big.Int).Div(new(big.Int).Lsh(big.NewInt(1), 62), span)
	last.Sub(last, big.NewInt(1))
	if stretches.Cmp(last) > 0 {
		stretches.Set(last)
	}
	stretches.Mul(stretches, span)
	return stretches.Int64() + int64(low)
}

func TestWholeLikeItsWords(t *testing.T) {
	lows := strewn(60)
	for _, largest := range append(places(), -1) {
		for _, width := range widths {
			last := uint64(2*half(width) - 1)
			for _, x := range append(lows, last, uint64(largest+1), uint64(largest+1+half(width)), uint64(largest+2+half(width))) {
				low := uint32(x & last)
				checkWhole(t, largest, low, width, whole(largest, low, width), api.OK)
			}
		}
	}
}

// sought goes outwards from the number that is expected, a step at a time, till one ends in low.
func sought(largest int64, low uint32, width int) int64 {
	next := largest + 1
	last := 2*half(width) - 1
	for away := int64(0); ; away++ {
		for _, n := range []int64{next + away, next - away} {
			if n >= 0 && n <= most && n&last == int64(low) {
				return n
			}
		}
	}
}

func TestWholeLikeASearch(t *testing.T) {
	for _, from := range []int64{-1, 1<<40 - 300, most - 600} {
		for largest := from; largest <= from+600; largest += 1 + largest&2 {
			for low := range uint32(256) {
				checkWhole(t, largest, low, 1, sought(largest, low, 1), api.OK)
			}
		}
	}
	for _, largest := range []int64{-1, 0, 32767, 32768, 65535, 70000, 1 << 50, most - 65536, most - 32768, most} {
		for low := uint32(0); low < 65536; low += 1733 {
			checkWhole(t, largest, low, 2, sought(largest, low, 2), api.OK)
		}
	}
}

// again cuts a number and makes it whole.
func again(t *testing.T, number, largest int64, width int) int64 {
	t.Helper()
	low, err := Cut(number, width)
	if err != api.OK {
		t.Fatalf("P3.2: Cut(%d, %d) answers %d", number, width, err)
	}
	got, err := Whole(largest, low, width)
	if err != api.OK {
		t.Fatalf("P3.3: Whole(%d, %d, %d) answers %d", largest, low, width, err)
	}
	return got
}

func TestWhatWasCutIsMadeWhole(t *testing.T) {
	for _, width := range widths {
		h := half(width)
		for _, largest := range append(places(), -1) {
			next := largest + 1
			for _, number := range []int64{next - h + 1, next - h + 2, next - 1, next, next + 1, next + h/2, next + h - 1, next + h} {
				if number < 0 || number > most {
					continue
				}
				if got := again(t, number, largest, width); got != number {
					t.Errorf("P3.4: %d, in %d bytes, with %d received becomes %d", number, width, largest, got)
				}
			}
		}
	}
}

// TestWhatIsTooFarAway: at e - H and e + H + 1 another one is meant, where there is another.
func TestWhatIsTooFarAway(t *testing.T) {
	for _, width := range widths {
		h := half(width)
		for _, largest := range []int64{h - 1, h, 2 * h, 5*h + 3, 1 << 40, most - 2*h, most - h - 1} {
			next := largest + 1
			if got := again(t, next-h, largest, width); got != next+h {
				t.Errorf("P3.4: e - H with %d and %d bytes becomes %d, want %d", largest, width, got, next+h)
			}
			if next+h+1 > most {
				continue
			}
			if got := again(t, next+h+1, largest, width); got != next-h+1 {
				t.Errorf("P3.4: e + H + 1 with %d and %d bytes becomes %d, want %d", largest, width, got, next-h+1)
			}
		}
	}
}

// TestTheWidthThatIsToldSuffices: whatever the receiver has got since the sender's last word of it.
func TestTheWidthThatIsToldSuffices(t *testing.T) {
	all := append(places(), -1)
	for _, acked := range all {
		for _, ahead := range []int64{1, 2, 3, 127, 128, 129, 1000, 32767, 32768, 32769, 100000, 1 << 23, 1<<23 + 1, 1 << 30, 1 << 31} {
			number := acked + ahead
			if number > most {
				continue
			}
			least, err := Width(number, acked)
			if err != api.OK {
				t.Fatalf("P3.1: Width(%d, %d) answers %d", number, acked, err)
			}
			for width := least; width <= 4; width++ {
				for _, largest := range []int64{acked, min(acked+1, number-1), acked + ahead/2, acked + ahead - ahead/2 - 1, number - 1} {
					if largest >= number {
						continue
					}
					if got := again(t, number, largest, width); got != number {
						t.Errorf("P3.4: %d, in %d bytes of at least %d, with %d received becomes %d", number, width, least, largest, got)
					}
				}
			}
		}
	}
}

// TestNothingIsKept: what was asked before changes no answer (R4).
func TestNothingIsKept(t *testing.T) {
	for range 3 {
		checkWidth(t, 1100000, 990000, 3, api.OK)
		checkWhole(t, most, 255, 1, most, api.OK)
		checkWidth(t, 127, -1, 1, api.OK)
		checkWhole(t, -1, 255, 1, 255, api.OK)
		checkCut(t, 1000000, 1, 64, api.OK)
		checkWhole(t, 300, 173, 1, 429, api.OK)
	}
}
