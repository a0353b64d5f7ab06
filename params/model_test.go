package params

import (
	"bytes"
	"math/big"
	"math/rand/v2"
	"slices"
	"testing"

	"portage/api"
)

// A source makes parameters and bytes, the same at every run.
type source struct {
	*rand.Rand
}

func newSource(seed uint64) source {
	return source{rand.New(rand.NewPCG(seed, 6))}
}

func (s source) one(l ...int) int { return l[s.IntN(len(l))] }

func (s source) bytes(n int) string {
	b := make([]byte, n)
	for i := range b {
		b[i] = byte(s.Uint32())
	}
	return string(b)
}

// params makes ones that may be.
func (s source) params() api.Params {
	p := usual
	for _, f := range fields() {
		switch s.IntN(5) {
		case 0:
			f.set(&p, s.Int64N(f.most+1))
		case 1:
			f.set(&p, f.most-s.Int64N(min(f.most, 3)))
		case 2:
			f.set(&p, min(f.most, max(0, int64(s.one(0, 1, 63, 64, 16383, 16384, 1<<30-1, 1<<30)+s.one(-1, 0, 1)))))
		case 3:
			f.set(&p, min(f.most, s.Int64N(1<<s.IntN(37))))
		}
	}
	return p
}

// sized is a number in one of the widths in which it can stand.
func (s source) sized(v uint64) string {
	for {
		if text := sizedAs(v, s.one(1, 1, 1, 2, 4, 8)); text != "" {
			return text
		}
	}
}

// unknown is a parameter whose number is none of the table's.
func (s source) unknown(number uint64) string {
	value := s.bytes(s.one(0, 1, 2, 3, 4, 8, 9, 70))
	return s.sized(number) + s.sized(uint64(len(value))) + value
}

// nearly makes bytes that are nearly parameters, right ones and wrong ones one behind the other, some of them spoilt or cut off.
func (s source) nearly() []byte {
	var b []byte
	for range s.IntN(7) {
		number := uint64(s.one(0, 1, 2, 4, 5, 6, 7, 8, 9, 10, 11, 12, 70, 300))
		if i := slices.IndexFunc(fields(), func(f field) bool { return uint64(f.number) == number }); i >= 0 && s.IntN(10) > 0 {
			value := s.sized(uint64(s.Int64N(fields()[i].most + int64(s.one(1, 1, 1, 2)))))
			b = append(b, s.sized(number)+s.sized(uint64(len(value)))+value...)
			continue
		}
		b = append(b, s.unknown(number)...)
	}
	for range s.one(0, 0, 0, 1) {
		if len(b) > 0 {
			b[s.IntN(len(b))] = byte(s.Uint32())
		}
	}
	if s.IntN(4) == 0 && len(b) > 0 {
		b = b[:s.IntN(len(b))]
	}
	return b
}

// modelRead reads by P6.4's words, in numbers without an end and by names written out, and ends at the first thing that is wrong.
func modelRead(b []byte) (p api.Params, err api.Errno) {
	defer func() {
		if wrong := recover(); wrong != nil {
			p, err = api.Params{}, wrong.(api.Errno)
		}
	}()
	rest := b
	take := func(n *big.Int) []byte {
		if n.Cmp(big.NewInt(int64(len(rest)))) > 0 {
			panic(api.ErrParamsShort)
		}
		part := rest[:n.Int64()]
		rest = rest[n.Int64():]
		return part
	}
	sized := func() *big.Int {
		if len(rest) == 0 {
			panic(api.ErrParamsShort)
		}
		part := bytes.Clone(take(big.NewInt(1 << (rest[0] / 64))))
		part[0] %= 64
		return new(big.Int).SetBytes(part)
	}
	p = api.Params{AckExp: 3, AckDelay: 25000}
	var ahead []string
	for len(rest) > 0 {
		number := sized().String()
		if slices.Contains(ahead, number) {
			panic(api.ErrParamsTwice)
		}
		ahead = append(ahead, number)
		value := take(sized())
		single := func(most int64) int64 {
			if len(value) == 0 || len(value) != 1<<(value[0]/64) {
				panic(api.ErrParamsValue)
			}
			whole := bytes.Clone(value)
			whole[0] %= 64
			v := new(big.Int).SetBytes(whole)
			if v.Cmp(big.NewInt(most)) > 0 {
				panic(api.ErrParamsValue)
			}
			return v.Int64()
		}
		switch number {
		case "1":
			p.Idle = single(68719476736)
		case "4":
			p.Data = single(1048576)
		case "5":
			p.StreamOwn = single(1048576)
		case "6":
			p.StreamHis = single(1048576)
		case "7":
			p.StreamUni = single(1048576)
		case "8":
			p.Bidi = single(32)
		case "9":
			p.Uni = single(32)
		case "10":
			p.AckExp = int(single(20))
		case "11":
			p.AckDelay = single(16383000)
		}
	}
	return p, api.OK
}

func TestDecodeIsTheModel(t *testing.T) {
	s := newSource(1)
	answers := map[api.Errno]int{}
	for range 100000 {
		b := s.nearly()
		want, wrong := modelRead(b)
		p, err := Decode(b)
		if p != want || err != wrong {
			t.Fatalf("P6.4: Decode(%x) = %+v, %d, want %+v, %d", b, p, err, want, wrong)
		}
		answers[err]++
	}
	for _, e := range []api.Errno{api.OK, api.ErrParamsShort, api.ErrParamsTwice, api.ErrParamsValue} {
		if answers[e] < 1000 {
			t.Errorf("the answer %d came %d times alone", e, answers[e])
		}
	}
}

// All bytes up to a length of two, and all of three whose first is one of the table's numbers or near to it.
func TestDecodeOfShortBytesIsTheModel(t *testing.T) {
	hold := func(b ...byte) {
		want, wrong := modelRead(b)
		if p, err := Decode(b); p != want || err != wrong {
			t.Fatalf("P6.4: Decode(%x) = %+v, %d, want %+v, %d", b, p, err, want, wrong)
		}
	}
	hold()
	for i := range 256 {
		hold(byte(i))
		for j := range 256 {
			hold(byte(i), byte(j))
			for number := range byte(14) {
				hold(number, byte(i), byte(j))
			}
		}
	}
}

func TestDecodeOfAnyBytesIsTheModel(t *testing.T) {
	s := newSource(2)
	for range 100000 {
		b := []byte(s.bytes(s.IntN(40)))
		for i := range b {
			b[i] %= byte(s.one(3, 12, 12, 70, 255))
		}
		want, wrong := modelRead(b)
		if p, err := Decode(b); p != want || err != wrong {
			t.Fatalf("P6.4: Decode(%x) = %+v, %d, want %+v, %d", b, p, err, want, wrong)
		}
	}
}

// What is written is read again.
func TestReadAgain(t *testing.T) {
	s := newSource(3)
	for range 20000 {
		p := s.params()
		b, err := Encode(p)
		if err != api.OK || Check(p) != api.OK {
			t.Fatalf("P6.3: Encode(%+v) = %d", p, err)
		}
		if q, err := Decode(b); q != p || err != api.OK {
			t.Fatalf("P6.5: Decode(%x) = %+v, %d, want %+v", b, q, err, p)
		}
	}
}

// Each beginning is read where a parameter ends, and refused as too short elsewhere.
func TestEveryBeginning(t *testing.T) {
	s := newSource(4)
	l := rows()
	for range 1000 {
		p := s.params()
		b, _ := Encode(p)
		l = append(l, pair{p, string(b)})
	}
	for _, c := range l {
		want, at := usual, 0
		ends := map[int]api.Params{0: usual}
		for _, f := range fields() {
			if v := f.written(c.p); v != f.untold {
				f.set(&want, v)
				at += len(told(uint64(f.number), shortest(uint64(v))))
				ends[at] = want
			}
		}
		for n := range len(c.b) + 1 {
			p, err := Decode([]byte(c.b[:n]))
			if want, ends := ends[n]; ends && (p != want || err != api.OK) || !ends && (p != api.Params{} || err != api.ErrParamsShort) {
				t.Fatalf("P6.5: Decode(%x) = %+v, %d, want %+v", c.b[:n], p, err, want)
			}
		}
	}
}

// What is read may be, is written in at most as many bytes, and these are read as the same and written as they are.
func TestWhatIsReadMayBeWritten(t *testing.T) {
	s := newSource(5)
	read := 0
	for range 100000 {
		b := s.nearly()
		p, err := Decode(b)
		if err != api.OK {
			continue
		}
		read++
		if Check(p) != api.OK {
			t.Fatalf("P6.5: Decode(%x) = %+v, which Check refuses", b, p)
		}
		again, err := Encode(p)
		if err != api.OK || len(again) > len(b) {
			t.Fatalf("P6.5: Decode(%x) is written as %x, %d", b, again, err)
		}
		if q, err := Decode(again); q != p || err != api.OK {
			t.Fatalf("P6.5: %x is read as %+v, %d, want %+v", again, q, err, p)
		}
	}
	if read < 10000 {
		t.Errorf("%d were read alone", read)
	}
}

// The order changes nothing, nor do unknown ones between, nor the widths; a parameter that stands twice is refused wherever it stands.
func TestOrderChangesNothing(t *testing.T) {
	s := newSource(6)
	for range 20000 {
		p := s.params()
		var l []string
		for _, f := range fields() {
			if v := f.written(p); v != f.untold || s.IntN(4) == 0 {
				value := s.sized(uint64(v))
				l = append(l, s.sized(uint64(f.number))+s.sized(uint64(len(value)))+value)
			}
		}
		for _, number := range []uint64{0, 2, 3, 12, 63, 64, 20000, 1 << 40, api.MaxNumber} {
			if s.IntN(3) == 0 {
				l = append(l, s.unknown(number))
			}
		}
		s.Shuffle(len(l), func(i, j int) { l[i], l[j] = l[j], l[i] })
		b := []byte{}
		for _, part := range l {
			b = append(b, part...)
		}
		if q, err := Decode(b); q != p || err != api.OK {
			t.Fatalf("P6.5: Decode(%x) = %+v, %d, want %+v", b, q, err, p)
		}
		if len(l) > 0 {
			b = append(b, l[s.IntN(len(l))]...)
			if q, err := Decode(b); q != (api.Params{}) || err != api.ErrParamsTwice {
				t.Fatalf("P6.5: Decode(%x) = %+v, %d, want ErrParamsTwice", b, q, err)
			}
		}
	}
}

// All orders of four parameters, an unknown one among them.
func TestEveryOrder(t *testing.T) {
	parts := []string{"\x04\x02\x43\xe8", "\x0a\x01\x00", "\x0b\x01\x00", "\x02\x02\x04\xff"}
	want := api.Params{Data: 1000}
	var turn func(b string, rest []string)
	turn = func(b string, rest []string) {
		if len(rest) == 0 {
			mustRead(t, "an order", b, want)
		}
		for i, part := range rest {
			turn(b+part, slices.Concat(rest[:i], rest[i+1:]))
		}
	}
	turn("", parts)
}
