package num

import (
	"bytes"
	"math"
	"slices"
	"testing"

	"portage/api"
)

var sizes = []int{1, 2, 4, 8}

// bound is the greatest number that a sized number of so many bytes holds.
func bound(size int) uint64 { return 1<<(8*size-2) - 1 }

// samples are numbers on both sides of every power of two, edges among them, and some strewn between.
func samples() []uint64 {
	l := []uint64{0, 41, 470093831, 0x0123456789abcdef, 0xfedcba9876543210, math.MaxUint64}
	for i := range 64 {
		l = append(l, 1<<i-1, 1<<i, 1<<i+1)
	}
	x := uint64(1)
	for i := range 2000 {
		x = x*6364136223846793005 + 1442695040888963407
		l = append(l, x>>(i%64))
	}
	return l
}

func TestSize(t *testing.T) {
	for _, c := range []struct {
		v    uint64
		want int
	}{
		{0, 1}, {1, 1}, {62, 1}, {63, 1},
		{64, 2}, {65, 2}, {16382, 2}, {16383, 2},
		{16384, 4}, {16385, 4}, {1<<30 - 2, 4}, {1<<30 - 1, 4},
		{1 << 30, 8}, {1<<30 + 1, 8}, {1 << 32, 8}, {api.MaxNumber - 1, 8}, {api.MaxNumber, 8},
		{api.MaxNumber + 1, 0}, {api.MaxNumber + 2, 0}, {1 << 63, 0}, {math.MaxUint64, 0},
	} {
		if got := Size(c.v); got != c.want {
			t.Errorf("P1.1: Size(%d) = %d, want %d", c.v, got, c.want)
		}
	}
}

func TestPut(t *testing.T) {
	for _, c := range []struct {
		v    uint64
		want string
		err  api.Errno
	}{
		{0, "\x00", api.OK},
		{1, "\x01", api.OK},
		{63, "\x3f", api.OK},
		{64, "\x40\x40", api.OK},
		{16383, "\x7f\xff", api.OK},
		{16384, "\x80\x00\x40\x00", api.OK},
		{470093831, "\x9c\x05\x10\x07", api.OK},
		{1<<30 - 1, "\xbf\xff\xff\xff", api.OK},
		{1 << 30, "\xc0\x00\x00\x00\x40\x00\x00\x00", api.OK},
		{0x0123456789abcdef, "\xc1\x23\x45\x67\x89\xab\xcd\xef", api.OK},
		{api.MaxNumber, "\xff\xff\xff\xff\xff\xff\xff\xff", api.OK},
		{api.MaxNumber + 1, "", api.ErrNumRange},
		{1 << 63, "", api.ErrNumRange},
		{math.MaxUint64, "", api.ErrNumRange},
	} {
		if b, err := Put(c.v); string(b) != c.want || err != c.err {
			t.Errorf("P1.2: Put(%d) = %x, %d, want %x, %d", c.v, b, err, c.want, c.err)
		}
	}
}

func TestPutAs(t *testing.T) {
	for _, c := range []struct {
		v    uint64
		size int
		want string
		err  api.Errno
	}{
		{0, 1, "\x00", api.OK},
		{0, 2, "\x40\x00", api.OK},
		{0, 4, "\x80\x00\x00\x00", api.OK},
		{0, 8, "\xc0\x00\x00\x00\x00\x00\x00\x00", api.OK},
		{41, 1, "\x29", api.OK},
		{41, 2, "\x40\x29", api.OK},
		{41, 4, "\x80\x00\x00\x29", api.OK},
		{41, 8, "\xc0\x00\x00\x00\x00\x00\x00\x29", api.OK},
		{63, 1, "\x3f", api.OK},
		{64, 1, "", api.ErrNumRange},
		{16383, 2, "\x7f\xff", api.OK},
		{16384, 2, "", api.ErrNumRange},
		{1<<30 - 1, 4, "\xbf\xff\xff\xff", api.OK},
		{1 << 30, 4, "", api.ErrNumRange},
		{api.MaxNumber, 8, "\xff\xff\xff\xff\xff\xff\xff\xff", api.OK},
		{api.MaxNumber + 1, 8, "", api.ErrNumRange},
		{api.MaxNumber + 1, 1, "", api.ErrNumRange},
		{math.MaxUint64, 8, "", api.ErrNumRange},
	} {
		if b, err := PutAs(c.v, c.size); string(b) != c.want || err != c.err {
			t.Errorf("P1.3: PutAs(%d, %d) = %x, %d, want %x, %d", c.v, c.size, b, err, c.want, c.err)
		}
	}
}

func TestPutAsSizeAheadOfRange(t *testing.T) {
	for _, size := range []int{math.MinInt, -8, -1, 0, 3, 5, 6, 7, 9, 16, math.MaxInt} {
		for _, v := range []uint64{0, 64, api.MaxNumber, api.MaxNumber + 1, math.MaxUint64} {
			if b, err := PutAs(v, size); len(b) != 0 || err != api.ErrArg {
				t.Errorf("P1.3: PutAs(%d, %d) = %x, %d, want no bytes, ErrArg", v, size, b, err)
			}
		}
	}
}

func TestGet(t *testing.T) {
	for _, c := range []struct {
		b   string
		at  int
		v   uint64
		end int
		err api.Errno
	}{
		{"\x9c\x05\x10\x07", 0, 470093831, 4, api.OK},
		{"\x40\x29\x07", 0, 41, 2, api.OK},
		{"\x40\x29\x07", 2, 7, 3, api.OK},
		{"\x40\x29\x07", 3, 0, 0, api.ErrNumShort},
		{"\x40\x29\x07", 4, 0, 0, api.ErrArg},
		{"\x40\x29\x07", -1, 0, 0, api.ErrArg},
		{"\x40\x29\x07", math.MinInt, 0, 0, api.ErrArg},
		{"\x40\x29\x07", math.MaxInt, 0, 0, api.ErrArg},
		{"\x40", 0, 0, 0, api.ErrNumShort},
		{"\x40", 2, 0, 0, api.ErrArg},
		{"", 0, 0, 0, api.ErrNumShort},
		{"", 1, 0, 0, api.ErrArg},
		{"", -1, 0, 0, api.ErrArg},
		{"\x29", 0, 41, 1, api.OK},
		{"\x80\x00\x00\x29", 0, 41, 4, api.OK},
		{"\xc0\x00\x00\x00\x00\x00\x00\x29", 0, 41, 8, api.OK},
		{"\xff\xff\xff\xff\xff\xff\xff\xff", 0, api.MaxNumber, 8, api.OK},
		{"\xc1\x23\x45\x67\x89\xab\xcd\xef\xff", 0, 0x0123456789abcdef, 8, api.OK},
	} {
		if v, end, err := Get([]byte(c.b), c.at); v != c.v || end != c.end || err != c.err {
			t.Errorf("P1.4: Get(%x, %d) = %d, %d, %d, want %d, %d, %d", c.b, c.at, v, end, err, c.v, c.end, c.err)
		}
	}
	if v, end, err := Get(nil, 0); v != 0 || end != 0 || err != api.ErrNumShort {
		t.Errorf("P1.4: Get(nil, 0) = %d, %d, %d, want ErrNumShort", v, end, err)
	}
}

func TestGetCutOff(t *testing.T) {
	for _, size := range sizes {
		whole, _ := PutAs(bound(size), size)
		for n := range size {
			// The missing bytes stand in the spare room, and must not be looked at there.
			b := append([]byte{7}, whole...)[:1+n]
			if v, end, err := Get(b, 1); v != 0 || end != 0 || err != api.ErrNumShort {
				t.Errorf("P1.4: Get(%x, 1) = %d, %d, %d, want ErrNumShort", b, v, end, err)
			}
		}
	}
}

type pair struct {
	at int
	v  uint64
}

func collect(b []byte, at int) []pair {
	var l []pair
	for from, v := range All(b, at) {
		l = append(l, pair{from, v})
	}
	return l
}

func TestAll(t *testing.T) {
	for _, c := range []struct {
		b    string
		at   int
		want []pair
	}{
		{"\x07\x40\x29\xc0", 0, []pair{{0, 7}, {1, 41}}},
		{"\x07\x40\x29\xc0", 1, []pair{{1, 41}}},
		{"\x07\x40\x29\xc0", 2, []pair{{2, 41}}},
		{"\x07\x40\x29\xc0", 3, nil},
		{"\x07\x40\x29\xc0", 4, nil},
		{"\x07\x40\x29\xc0", 5, nil},
		{"\x07\x40\x29\xc0", -1, nil},
		{"\x07\x40\x29\xc0", math.MinInt, nil},
		{"\x07\x40\x29\xc0", math.MaxInt, nil},
		{"\x80\x00\x00\x29\xc0\x00\x00\x00\x00\x00\x00\x2a\x2b", 0, []pair{{0, 41}, {4, 42}, {12, 43}}},
		{"\x00", 0, []pair{{0, 0}}},
		{"", 0, nil},
	} {
		if All([]byte(c.b), c.at) == nil {
			t.Fatalf("P1.5: All(%x, %d) is nil", c.b, c.at)
		}
		if got := collect([]byte(c.b), c.at); !slices.Equal(got, c.want) {
			t.Errorf("P1.5: All(%x, %d) gives %v, want %v", c.b, c.at, got, c.want)
		}
	}
	if All(nil, 0) == nil || len(collect(nil, 0)) != 0 {
		t.Errorf("P1.5: All(nil, 0) is nil, or gives something")
	}
}

func TestAllLeftEarlyAndAgain(t *testing.T) {
	seq := All([]byte{1, 2, 3}, 0)
	calls := 0
	seq(func(int, uint64) bool {
		calls++
		return false
	})
	if calls != 1 {
		t.Errorf("P1.5: a range that is left goes on: %d calls", calls)
	}
	for round := range 2 {
		var got []pair
		for at, v := range seq {
			got = append(got, pair{at, v})
		}
		if !slices.Equal(got, []pair{{0, 1}, {1, 2}, {2, 3}}) {
			t.Errorf("P1.5: round %d gives %v", round, got)
		}
	}
}

func TestAllWithinItself(t *testing.T) {
	seq := All([]byte{1, 2, 3}, 0)
	var outer []uint64
	for _, v := range seq {
		outer = append(outer, v)
		var inner []uint64
		for _, w := range seq {
			inner = append(inner, w)
		}
		if !slices.Equal(inner, []uint64{1, 2, 3}) {
			t.Errorf("P1.5: a range within a range gives %v", inner)
		}
	}
	if !slices.Equal(outer, []uint64{1, 2, 3}) {
		t.Errorf("P1.5: a range around a range gives %v", outer)
	}
}

func TestAllLooksAtItsBytes(t *testing.T) {
	b := []byte{1, 2, 3}
	seq := All(b, 0)
	b[0] = 9
	var got []uint64
	for at, v := range seq {
		got = append(got, v)
		b[at] = 0
		b[2] = 8
	}
	if !slices.Equal(got, []uint64{9, 2, 8}) {
		t.Errorf("P1.5: bytes that change while they are ranged over give %v", got)
	}
}

func TestBig(t *testing.T) {
	for _, c := range []struct {
		v    uint64
		n    int
		want string
		err  api.Errno
	}{
		{258, 2, "\x01\x02", api.OK},
		{258, 3, "\x00\x01\x02", api.OK},
		{258, 1, "", api.ErrNumRange},
		{0, 0, "", api.OK},
		{1, 0, "", api.ErrNumRange},
		{math.MaxUint64, 0, "", api.ErrNumRange},
		{0, 1, "\x00", api.OK},
		{0, 8, "\x00\x00\x00\x00\x00\x00\x00\x00", api.OK},
		{1 << 62, 8, "\x40\x00\x00\x00\x00\x00\x00\x00", api.OK},
		{0x0123456789abcdef, 8, "\x01\x23\x45\x67\x89\xab\xcd\xef", api.OK},
		{math.MaxUint64, 8, "\xff\xff\xff\xff\xff\xff\xff\xff", api.OK},
		{math.MaxUint64, 7, "", api.ErrNumRange},
		{1, 9, "", api.ErrArg},
		{0, 9, "", api.ErrArg},
		{1, -1, "", api.ErrArg},
		{math.MaxUint64, -1, "", api.ErrArg},
		{0, math.MinInt, "", api.ErrArg},
		{0, math.MaxInt, "", api.ErrArg},
	} {
		if b, err := Big(c.v, c.n); string(b) != c.want || err != c.err {
			t.Errorf("P1.6: Big(%d, %d) = %x, %d, want %x, %d", c.v, c.n, b, err, c.want, c.err)
		}
	}
	for n := 1; n < 8; n++ {
		most := uint64(1)<<(8*n) - 1
		if b, err := Big(most, n); !bytes.Equal(b, bytes.Repeat([]byte{0xff}, n)) || err != api.OK {
			t.Errorf("P1.6: Big(%d, %d) = %x, %d", most, n, b, err)
		}
		if b, err := Big(most+1, n); len(b) != 0 || err != api.ErrNumRange {
			t.Errorf("P1.6: Big(%d, %d) = %x, %d, want ErrNumRange", most+1, n, b, err)
		}
	}
}

func TestReadBig(t *testing.T) {
	nine := "\x01\x23\x45\x67\x89\xab\xcd\xef\xff"
	for _, c := range []struct {
		b     string
		at, n int
		v     uint64
		end   int
		err   api.Errno
	}{
		{"\x01\x02\x03", 1, 2, 515, 3, api.OK},
		{"\x01\x02\x03", 0, 3, 66051, 3, api.OK},
		{"\x01\x02\x03", 0, 1, 1, 1, api.OK},
		{"\x01\x02\x03", 2, 2, 0, 0, api.ErrNumShort},
		{"\x01\x02\x03", 3, 1, 0, 0, api.ErrNumShort},
		{"\x01\x02\x03", 0, 8, 0, 0, api.ErrNumShort},
		{"\x01\x02\x03", 0, 0, 0, 0, api.OK},
		{"\x01", 1, 0, 0, 1, api.OK},
		{"", 0, 0, 0, 0, api.OK},
		{"", 0, 1, 0, 0, api.ErrNumShort},
		{"", 1, 0, 0, 0, api.ErrArg},
		{"\x01\x02\x03", 4, 0, 0, 0, api.ErrArg},
		{"\x01\x02\x03", 4, 1, 0, 0, api.ErrArg},
		{"\x01\x02\x03", -1, 1, 0, 0, api.ErrArg},
		{"\x01\x02\x03", 0, -1, 0, 0, api.ErrArg},
		{"\x01\x02\x03", 0, 9, 0, 0, api.ErrArg},
		{"\x01\x02\x03", math.MaxInt, 8, 0, 0, api.ErrArg},
		{"\x01\x02\x03", math.MinInt, 8, 0, 0, api.ErrArg},
		{"\x01\x02\x03", 0, math.MaxInt, 0, 0, api.ErrArg},
		{"\x01\x02\x03", 0, math.MinInt, 0, 0, api.ErrArg},
		{nine, 0, 8, 0x0123456789abcdef, 8, api.OK},
		{nine, 1, 8, 0x23456789abcdefff, 9, api.OK},
		{nine, 0, 9, 0, 0, api.ErrArg},
		{"\xff\xff\xff\xff\xff\xff\xff\xff", 0, 8, math.MaxUint64, 8, api.OK},
	} {
		if v, end, err := ReadBig([]byte(c.b), c.at, c.n); v != c.v || end != c.end || err != c.err {
			t.Errorf("P1.7: ReadBig(%x, %d, %d) = %d, %d, %d, want %d, %d, %d", c.b, c.at, c.n, v, end, err, c.v, c.end, c.err)
		}
	}
}

func TestReadBigCutOff(t *testing.T) {
	whole := []byte{1, 2, 3, 4, 5, 6, 7, 8, 9}
	for n := 1; n <= 8; n++ {
		// The missing byte stands in the spare room, and must not be looked at there.
		b := whole[:n]
		if v, end, err := ReadBig(b, 1, n); v != 0 || end != 0 || err != api.ErrNumShort {
			t.Errorf("P1.7: ReadBig(%x, 1, %d) = %d, %d, %d, want ErrNumShort", b, n, v, end, err)
		}
	}
}

func TestGetOfWhatWasPut(t *testing.T) {
	for _, v := range samples() {
		for _, size := range sizes {
			b, err := PutAs(v, size)
			if fits := v <= bound(size); fits != (err == api.OK) {
				t.Fatalf("P1.8: PutAs(%d, %d) answers %d", v, size, err)
			} else if !fits {
				continue
			}
			for _, around := range []byte{0x00, 0x5a, 0xff} {
				laid := append(append([]byte{around, around}, b...), around, around)
				if got, end, err := Get(laid, 2); got != v || end != 2+size || err != api.OK {
					t.Errorf("P1.8: Get(%x, 2) = %d, %d, %d, want %d, %d", laid, got, end, err, v, 2+size)
				}
			}
		}
	}
}

func TestPutAsOfWhatWasRead(t *testing.T) {
	check := func(b []byte) {
		v, end, err := Get(b, 0)
		if err != api.OK {
			t.Fatalf("P1.8: Get(%x, 0) answers %d", b, err)
		}
		if again, err := PutAs(v, end); !bytes.Equal(again, b[:end]) || err != api.OK {
			t.Errorf("P1.8: Get(%x, 0) = %d, %d, but PutAs of it is %x, %d", b, v, end, again, err)
		}
	}
	for hi := range 256 {
		for lo := range 256 {
			check([]byte{byte(hi), byte(lo), 0x12, 0x34, 0x56, 0x78, 0x9a, 0xbc})
		}
	}
	for _, v := range samples() {
		b, _ := Big(v, 8)
		check(b)
	}
}

func TestPutIsShortestAndInOrder(t *testing.T) {
	l := samples()
	l = slices.DeleteFunc(l, func(v uint64) bool { return v > api.MaxNumber })
	slices.Sort(l)
	l = slices.Compact(l)
	var last []byte
	for _, v := range l {
		b, err := Put(v)
		if err != api.OK || len(b) != Size(v) {
			t.Fatalf("P1.8: Put(%d) = %x, %d, and Size %d", v, b, err, Size(v))
		}
		for _, size := range sizes {
			if size < len(b) && v <= bound(size) {
				t.Errorf("P1.8: Put(%d) has %d bytes, %d are enough", v, len(b), size)
			}
		}
		if last != nil && bytes.Compare(last, b) >= 0 {
			t.Errorf("P1.8: Put(%d) = %x does not come behind %x", v, b, last)
		}
		last = b
	}
}

func TestAllOfWhatWasLaid(t *testing.T) {
	var b []byte
	var want []pair
	for i, v := range samples() {
		if v > api.MaxNumber {
			continue
		}
		size := sizes[i%4]
		if v > bound(size) {
			size = 8
		}
		p, _ := PutAs(v, size)
		want = append(want, pair{len(b), v})
		b = append(b, p...)
	}
	if got := collect(b, 0); !slices.Equal(got, want) {
		t.Errorf("P1.8: numbers laid one behind the other are not read as these")
	}
}

func TestPlainThereAndBack(t *testing.T) {
	for _, v := range samples() {
		for n := range 9 {
			b, err := Big(v, n)
			if err != api.OK {
				continue
			}
			laid := append(append([]byte{0xff}, b...), 0xff)
			if got, end, err := ReadBig(laid, 1, n); got != v || end != 1+n || err != api.OK {
				t.Errorf("P1.6, P1.7: ReadBig(%x, 1, %d) = %d, %d, %d, want %d", laid, n, got, end, err, v)
			}
		}
	}
}

func TestMemory(t *testing.T) {
	for name, call := range map[string]func() []byte{
		"Put":   func() []byte { b, _ := Put(41); return b },
		"PutAs": func() []byte { b, _ := PutAs(41, 8); return b },
		"Big":   func() []byte { b, _ := Big(41, 8); return b },
	} {
		first, second := call(), call()
		want := bytes.Clone(second)
		for i := range first[:cap(first)] {
			first[:cap(first)][i] ^= 0xff
		}
		if !bytes.Equal(second, want) || !bytes.Equal(call(), want) {
			t.Errorf("R3: two answers of %s share memory", name)
		}
	}
	b := []byte{7, 0x40, 0x29, 0xc0, 1, 2, 3, 4, 5, 6, 7, 8, 9}
	want := bytes.Clone(b)
	cut := b[:10]
	Get(cut, 1)
	ReadBig(cut, 0, 8)
	collect(cut, 0)
	if !bytes.Equal(b, want) {
		t.Errorf("R3: what was handed in has changed: %x", b)
	}
}
