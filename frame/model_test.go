package frame

import (
	"math/big"
	"slices"
	"strings"
	"testing"

	"portage/api"
	"portage/num"
)

// wants are the table's parts as letters, by type: S Stream, C Code, Z Size, O Offset, L Limit, M a Limit up to 2^60, D Delay, g the largest, r runs, c Counts, b bytes behind their number, t bytes up to the end, 8 eight bytes.
var wants = map[uint64]string{
	0x01: "", 0x1e: "", 0x02: "gDr", 0x03: "gDrc", 0x04: "SCZ", 0x05: "SC", 0x06: "Ob",
	0x08: "St", 0x09: "St", 0x0a: "Sb", 0x0b: "Sb", 0x0c: "SOt", 0x0d: "SOt", 0x0e: "SOb", 0x0f: "SOb",
	0x10: "L", 0x11: "SL", 0x12: "M", 0x13: "M", 0x14: "L", 0x15: "SL", 0x16: "M", 0x17: "M",
	0x1a: "8", 0x1b: "8", 0x1c: "CZb", 0x1d: "Cb",
}

// readTold is P4.3 said again, without panics, from the letters above, in numbers without an end.
func readTold(b []byte, at int) (api.Frame, int, api.Errno) {
	if at < 0 || at > len(b) {
		return api.Frame{}, 0, api.ErrArg
	}
	m := &model{left: b[at:]}
	kind, ok := m.number()
	if !ok {
		return api.Frame{}, 0, api.ErrFrameShort
	}
	if len(b)-at-len(m.left) != num.Size(kind) {
		return api.Frame{}, 0, api.ErrFrameKind
	}
	if kind == 0 {
		rest := strings.TrimLeft(string(b[at:min(len(b), at+65535)]), "\x00")
		end := min(len(b), at+65535) - len(rest)
		return api.Frame{Kind: api.KPadding, Size: int64(end - at)}, end, api.OK
	}
	letters, known := wants[kind]
	if !known {
		return api.Frame{}, 0, api.ErrFrameKind
	}
	m.begin(kind)
	for _, letter := range letters {
		if err := m.read(letter); err != api.OK {
			return api.Frame{}, 0, err
		}
	}
	return m.f, len(b) - len(m.left), api.OK
}

type model struct {
	left    []byte
	f       api.Frame
	largest uint64
}

func (m *model) begin(kind uint64) {
	m.f.Kind = int(kind)
	switch kind {
	case 0x03, 0x13, 0x17, 0x1d:
		m.f.Kind--
		m.f.Marks, m.f.Uni, m.f.Own = kind == 0x03, kind == 0x13 || kind == 0x17, kind == 0x1d
	case 0x08, 0x09, 0x0a, 0x0b, 0x0c, 0x0d, 0x0e, 0x0f:
		m.f = api.Frame{Kind: api.KStream, Fin: kind%2 == 1, Tail: strings.HasSuffix(wants[kind], "t")}
	}
}

func (m *model) number() (uint64, bool) {
	v, end, err := num.Get(m.left, 0)
	if err != api.OK {
		return 0, false
	}
	m.left = m.left[end:]
	return v, true
}

func (m *model) read(letter rune) api.Errno {
	switch letter {
	case 'r':
		return m.runs()
	case 'c':
		for i := range m.f.Counts {
			v, ok := m.number()
			if !ok {
				return api.ErrFrameShort
			}
			m.f.Counts[i] = int64(v)
		}
		return api.OK
	case '8':
		return m.bytes(8)
	case 't':
		return m.bytes(uint64(len(m.left)))
	}
	v, ok := m.number()
	if !ok {
		return api.ErrFrameShort
	}
	switch letter {
	case 'g':
		m.largest = v
	case 'S':
		m.f.Stream = int64(v)
	case 'C':
		m.f.Code = int64(v)
	case 'Z':
		m.f.Size = int64(v)
	case 'O':
		m.f.Offset = int64(v)
	case 'D':
		m.f.Delay = int64(v)
	case 'L', 'M':
		m.f.Limit = int64(v)
		if letter == 'M' && v > 1<<60 {
			return api.ErrFrameField
		}
	case 'b':
		return m.bytes(v)
	}
	return api.OK
}

func (m *model) bytes(n uint64) api.Errno {
	end := new(big.Int).Add(big.NewInt(m.f.Offset), new(big.Int).SetUint64(n))
	if end.Cmp(big.NewInt(api.MaxNumber)) > 0 {
		return api.ErrFrameField
	}
	if n > uint64(len(m.left)) {
		return api.ErrFrameShort
	}
	m.f.Data = slices.Clone(m.left[:n])
	m.left = m.left[n:]
	return api.OK
}

// runs goes down from the largest in steps: over a run's numbers, over those that are missing.
func (m *model) runs() api.Errno {
	further, ok := m.number()
	if !ok {
		return api.ErrFrameShort
	}
	below := new(big.Int).SetUint64(m.largest) // the greatest number of which nothing is told yet
	for i := uint64(0); ; i++ {
		less, ok := m.number()
		if !ok {
			return api.ErrFrameShort
		}
		lo := new(big.Int).Sub(below, new(big.Int).SetUint64(less))
		if lo.Sign() < 0 {
			return api.ErrFrameField
		}
		m.f.Runs = append(m.f.Runs, api.Run{Lo: lo.Int64(), Hi: below.Int64()})
		if i == further {
			return api.OK
		}
		gap, ok := m.number()
		if !ok {
			return api.ErrFrameShort
		}
		missing := new(big.Int).Add(new(big.Int).SetUint64(gap), big.NewInt(1))
		below = lo.Sub(lo, big.NewInt(1))
		below.Sub(below, missing)
		if below.Sign() < 0 {
			return api.ErrFrameField
		}
	}
}

// checkTold holds Decode against its words, and what it read against P4.10.
func checkTold(t *testing.T, b []byte, at int) {
	t.Helper()
	f, end, err := Decode(b, at)
	g, place, want := readTold(b, at)
	if !same(f, g) || end != place || err != want {
		t.Fatalf("P4.3: Decode(%x, %d) = %+v, %d, %d, want %+v, %d, %d", b, at, f, end, err, g, place, want)
	}
	if err != api.OK {
		return
	}
	again, err := Encode(f)
	n, sized := Size(f)
	if err != api.OK || len(again) > end-at || n != len(again) || sized != api.OK {
		t.Fatalf("P4.10: what Decode(%x, %d) read is written as %x, %d, Size %d, %d", b, at, again, err, n, sized)
	}
	h, end, err := Decode(again, 0)
	if !same(h, f) || end != len(again) || err != api.OK {
		t.Fatalf("P4.10: what Decode(%x, %d) read, written and read again is %+v, %d, %d", b, at, h, end, err)
	}
}

// TestDecodeLikeItsWords reads all short rows of bytes: every type, and behind it a few telling ones.
func TestDecodeLikeItsWords(t *testing.T) {
	telling := []byte{0x00, 0x01, 0x02, 0x03, 0x05, 0x06, 0x40, 0x80, 0xc0, 0xd0, 0xff}
	for first := range 256 {
		b := []byte{byte(first)}
		checkTold(t, b, 0)
		for _, p := range telling {
			for _, q := range telling {
				checkTold(t, append(b, p, q), 0)
				for _, r := range telling {
					checkTold(t, append(b, p, q, r), 0)
					for _, s := range telling[:7] {
						checkTold(t, append(b, p, q, r, s), 0)
					}
				}
			}
		}
	}
}

// TestAcksLikeTheirWords reads all acks of small numbers, and every beginning of them.
func TestAcksLikeTheirWords(t *testing.T) {
	b := make([]byte, 12)
	for i := range 6 * 3 * 5 * 5 * 5 * 5 * 5 * 2 {
		x := i
		next := func(n int) byte {
			v := x % n
			x /= n
			return byte(v)
		}
		b[0], b[1], b[2], b[3] = 0x02, next(6), 0, next(3)
		for j := range 5 {
			b[4+j] = next(5)
		}
		b[0] += next(2)
		checkTold(t, b, 0)
		if i%7 == 0 {
			for n := range b {
				checkTold(t, b[:n], 0)
			}
		}
	}
}

// TestStrewnBytes reads rows of bytes of all kinds, most of them frames with a fault, at all places.
func TestStrewnBytes(t *testing.T) {
	rows := table()
	x := uint64(5)
	next := func(n int) int {
		x = x*6364136223846793005 + 1442695040888963407
		return int(x >> 33 % uint64(n))
	}
	for range 40000 {
		c := rows[next(len(rows))]
		if len(c.b) > 100 {
			continue
		}
		b := []byte(c.b)
		if next(2) == 0 {
			b = spread(t, c.f, 1<<next(4))
		}
		for range next(4) {
			b[next(len(b))] = byte(next(256))
		}
		b = append(b, rows[next(3)].b...)
		b = b[:1+next(len(b))]
		checkTold(t, b, 0)
		checkTold(t, b, next(len(b)+1))
	}
}
