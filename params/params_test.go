package params

import (
	"math"
	"testing"

	"portage/api"
)

// A field is a parameter as the chapter's table has it, written down a second time: with the bytes of its greatest value and of 5.
type field struct {
	name    string
	number  byte
	most    int64
	untold  int64
	atMost  string
	atFive  string
	set     func(p *api.Params, v int64)
	written func(p api.Params) int64
}

func fields() []field {
	return []field{
		{"Idle", 1, 1 << 36, 0, "\x01\x08\xc0\x00\x00\x10\x00\x00\x00\x00", "\x01\x01\x05",
			func(p *api.Params, v int64) { p.Idle = v }, func(p api.Params) int64 { return p.Idle }},
		{"Data", 4, 1 << 20, 0, "\x04\x04\x80\x10\x00\x00", "\x04\x01\x05",
			func(p *api.Params, v int64) { p.Data = v }, func(p api.Params) int64 { return p.Data }},
		{"StreamOwn", 5, 1 << 20, 0, "\x05\x04\x80\x10\x00\x00", "\x05\x01\x05",
			func(p *api.Params, v int64) { p.StreamOwn = v }, func(p api.Params) int64 { return p.StreamOwn }},
		{"StreamHis", 6, 1 << 20, 0, "\x06\x04\x80\x10\x00\x00", "\x06\x01\x05",
			func(p *api.Params, v int64) { p.StreamHis = v }, func(p api.Params) int64 { return p.StreamHis }},
		{"StreamUni", 7, 1 << 20, 0, "\x07\x04\x80\x10\x00\x00", "\x07\x01\x05",
			func(p *api.Params, v int64) { p.StreamUni = v }, func(p api.Params) int64 { return p.StreamUni }},
		{"Bidi", 8, 32, 0, "\x08\x01\x20", "\x08\x01\x05",
			func(p *api.Params, v int64) { p.Bidi = v }, func(p api.Params) int64 { return p.Bidi }},
		{"Uni", 9, 32, 0, "\x09\x01\x20", "\x09\x01\x05",
			func(p *api.Params, v int64) { p.Uni = v }, func(p api.Params) int64 { return p.Uni }},
		{"AckExp", 10, 20, 3, "\x0a\x01\x14", "\x0a\x01\x05",
			func(p *api.Params, v int64) { p.AckExp = int(v) }, func(p api.Params) int64 { return int64(p.AckExp) }},
		{"AckDelay", 11, 16383000, 25000, "\x0b\x04\x80\xf9\xfc\x18", "\x0b\x01\x05",
			func(p *api.Params, v int64) { p.AckDelay = v }, func(p api.Params) int64 { return p.AckDelay }},
	}
}

// usual is what holds of what isn't told, written down a second time.
var usual = api.Params{AckExp: 3, AckDelay: 25000}

// with is usual with one field set.
func with(f field, v int64) api.Params {
	p := usual
	f.set(&p, v)
	return p
}

// A pair is parameters and what they are written as.
type pair struct {
	p api.Params
	b string
}

// rows has the chapter's examples, single fields, several, and all of them, with values on both sides of a width's end.
func rows() []pair {
	all := api.Params{Idle: 30000000, Data: 1048576, StreamOwn: 65536, StreamHis: 16384, StreamUni: 16383, Bidi: 32, Uni: 1, AckExp: 20, AckDelay: 63}
	allBytes := "\x01\x04\x81\xc9\xc3\x80" + "\x04\x04\x80\x10\x00\x00" + "\x05\x04\x80\x01\x00\x00" + "\x06\x04\x80\x00\x40\x00" +
		"\x07\x02\x7f\xff" + "\x08\x01\x20" + "\x09\x01\x01" + "\x0a\x01\x14" + "\x0b\x01\x3f"
	l := []pair{
		{usual, ""},
		{api.Params{Data: 1000, AckDelay: 25000}, "\x04\x02\x43\xe8\x0a\x01\x00"},
		{api.Params{}, "\x0a\x01\x00\x0b\x01\x00"},
		{api.Params{AckExp: 3}, "\x0b\x01\x00"},
		{api.Params{AckDelay: 25000}, "\x0a\x01\x00"},
		{api.Params{AckExp: 2, AckDelay: 24999}, "\x0a\x01\x02\x0b\x04\x80\x00\x61\xa7"},
		{api.Params{AckExp: 4, AckDelay: 25001}, "\x0a\x01\x04\x0b\x04\x80\x00\x61\xa9"},
		{api.Params{AckExp: 19, AckDelay: 16382999}, "\x0a\x01\x13\x0b\x04\x80\xf9\xfc\x17"},
		{api.Params{Idle: 1, AckExp: 3, AckDelay: 25000}, "\x01\x01\x01"},
		{api.Params{Idle: 63, AckExp: 3, AckDelay: 25000}, "\x01\x01\x3f"},
		{api.Params{Idle: 64, AckExp: 3, AckDelay: 25000}, "\x01\x02\x40\x40"},
		{api.Params{Idle: 16383, AckExp: 3, AckDelay: 25000}, "\x01\x02\x7f\xff"},
		{api.Params{Idle: 16384, AckExp: 3, AckDelay: 25000}, "\x01\x04\x80\x00\x40\x00"},
		{api.Params{Idle: 1<<30 - 1, AckExp: 3, AckDelay: 25000}, "\x01\x04\xbf\xff\xff\xff"},
		{api.Params{Idle: 1 << 30, AckExp: 3, AckDelay: 25000}, "\x01\x08\xc0\x00\x00\x00\x40\x00\x00\x00"},
		{api.Params{Idle: 1<<36 - 1, AckExp: 3, AckDelay: 25000}, "\x01\x08\xc0\x00\x00\x0f\xff\xff\xff\xff"},
		{api.Params{StreamOwn: 1, StreamUni: 3, Uni: 2, AckExp: 3, AckDelay: 25000}, "\x05\x01\x01\x07\x01\x03\x09\x01\x02"},
		{api.Params{Data: 3, StreamHis: 25000, Bidi: 3, AckExp: 3, AckDelay: 25000}, "\x04\x01\x03\x06\x04\x80\x00\x61\xa8\x08\x01\x03"},
		{all, allBytes},
	}
	var most api.Params
	var bytes string
	for _, f := range fields() {
		l = append(l, pair{with(f, f.most), f.atMost}, pair{with(f, 5), f.atFive}, pair{with(f, f.untold), ""})
		f.set(&most, f.most)
		bytes += f.atMost
	}
	return append(l, pair{most, bytes})
}

// wrongs are values that may not be of a field, on both sides.
func wrongs(f field) []int64 {
	return []int64{-1, -2, -3, -25000, math.MinInt32, math.MinInt64, f.most + 1, f.most + 2, 2*f.most + 1, 1 << 40, 1 << 52, api.MaxNumber, api.MaxNumber + 1, math.MaxInt64}
}

func TestDefault(t *testing.T) {
	if d := Default(); d != usual {
		t.Errorf("P6.1: Default() = %+v, want %+v", d, usual)
	}
	for _, f := range fields() {
		if v := f.written(Default()); v != f.untold {
			t.Errorf("P6.1: %s of Default() is %d, want %d", f.name, v, f.untold)
		}
	}
	if err := Check(Default()); err != api.OK {
		t.Errorf("P6.2: Check(Default()) = %d", err)
	}
}

func TestCheckTakes(t *testing.T) {
	for _, f := range fields() {
		for _, v := range []int64{0, 1, 2, 3, 5, f.untold, f.most / 2, f.most - 1, f.most} {
			for _, p := range []api.Params{{}, usual} {
				f.set(&p, v)
				if err := Check(p); err != api.OK {
					t.Errorf("P6.2: %s %d: Check(%+v) = %d", f.name, v, p, err)
				}
			}
		}
	}
	for _, c := range rows() {
		if err := Check(c.p); err != api.OK {
			t.Errorf("P6.2: Check(%+v) = %d", c.p, err)
		}
	}
}

func TestCheckRefuses(t *testing.T) {
	var most api.Params
	for _, f := range fields() {
		f.set(&most, f.most)
	}
	for _, f := range fields() {
		for _, v := range wrongs(f) {
			for _, p := range []api.Params{{}, usual, most} {
				f.set(&p, v)
				b, err := Encode(p)
				if Check(p) != api.ErrParamsValue || err != api.ErrParamsValue || len(b) != 0 {
					t.Errorf("P6.2, P6.3: %s %d: Check(%+v) = %d, Encode %x, %d", f.name, v, p, Check(p), b, err)
				}
			}
		}
	}
}

// Two fields that may not be don't make one that may.
func TestCheckRefusesPairs(t *testing.T) {
	for _, f := range fields() {
		for _, g := range fields() {
			for _, v := range []int64{-1, f.most + 1} {
				for _, w := range []int64{-1, g.most + 1} {
					p := usual
					f.set(&p, v)
					g.set(&p, w)
					b, err := Encode(p)
					if Check(p) != api.ErrParamsValue || err != api.ErrParamsValue || len(b) != 0 {
						t.Errorf("P6.2, P6.3: Check(%+v) = %d, Encode %x, %d", p, Check(p), b, err)
					}
				}
			}
		}
	}
}

func TestEncodeWritesRows(t *testing.T) {
	for _, c := range rows() {
		if b, err := Encode(c.p); string(b) != c.b || err != api.OK {
			t.Errorf("P6.3: Encode(%+v) = %x, %d, want %x", c.p, b, err, c.b)
		}
	}
}

// A field at 0 is told where 0 isn't its default, and there alone.
func TestEncodeOfNoughts(t *testing.T) {
	for _, f := range fields() {
		want := ""
		if f.untold != 0 {
			want = string([]byte{f.number, 1, 0})
		}
		if b, err := Encode(with(f, 0)); string(b) != want || err != api.OK {
			t.Errorf("P6.3: %s 0: Encode = %x, %d, want %x", f.name, b, err, want)
		}
	}
}

// Every choice of fields is told by rising number, and read again.
func TestEncodeEveryChoice(t *testing.T) {
	l := fields()
	for choice := range 1 << len(l) {
		p, want := usual, ""
		for i, f := range l {
			switch {
			case choice>>i&1 == 0:
			case (choice+i)%2 == 0:
				f.set(&p, f.most)
				want += f.atMost
			default:
				f.set(&p, 5)
				want += f.atFive
			}
		}
		b, err := Encode(p)
		if string(b) != want || err != api.OK {
			t.Fatalf("P6.3: Encode(%+v) = %x, %d, want %x", p, b, err, want)
		}
		if q, err := Decode(b); q != p || err != api.OK {
			t.Fatalf("P6.5: Decode(%x) = %+v, %d, want %+v", b, q, err, p)
		}
	}
}
