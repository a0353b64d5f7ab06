package params

import (
	"slices"
	"strings"
	"testing"

	"portage/api"
)

// sizedAs lays a number in 1, 2, 4 or 8 bytes; "", if it has no room there.
func sizedAs(v uint64, size int) string {
	if v>>(8*size-2) != 0 {
		return ""
	}
	b := make([]byte, size)
	for i := range b {
		b[size-1-i] = byte(v >> (8 * i))
	}
	b[0] |= map[int]byte{1: 0x00, 2: 0x40, 4: 0x80, 8: 0xc0}[size]
	return string(b)
}

// shortest lays it in as few as can be.
func shortest(v uint64) string {
	for _, size := range widths {
		if s := sizedAs(v, size); s != "" {
			return s
		}
	}
	return ""
}

var widths = []int{1, 2, 4, 8}

// told is a parameter with these bytes as its value.
func told(number uint64, value string) string {
	return shortest(number) + shortest(uint64(len(value))) + value
}

func mustRead(t *testing.T, what, b string, want api.Params) {
	t.Helper()
	if p, err := Decode([]byte(b)); p != want || err != api.OK {
		t.Errorf("P6.4: %s: Decode(%.60x) = %+v, %d, want %+v", what, b, p, err, want)
	}
}

func mustRefuse(t *testing.T, what, b string, want api.Errno) {
	t.Helper()
	if p, err := Decode([]byte(b)); p != (api.Params{}) || err != want {
		t.Errorf("P6.4: %s: Decode(%.60x) = %+v, %d, want %d", what, b, p, err, want)
	}
}

func TestDecodeReadsRows(t *testing.T) {
	for _, c := range rows() {
		mustRead(t, "a row", c.b, c.p)
	}
	if p, err := Decode(nil); p != usual || err != api.OK {
		t.Errorf("P6.4: Decode(nil) = %+v, %d", p, err)
	}
}

func TestDecodeExamples(t *testing.T) {
	two := usual
	two.Data, two.AckExp = 1000, 0
	five := usual
	five.Data = 5
	mustRead(t, "nothing", "", usual)
	mustRead(t, "two of them", "\x0a\x01\x00\x04\x02\x43\xe8", two)
	mustRead(t, "a wider form", "\x04\x04\x80\x00\x00\x05", five)
	mustRead(t, "an unknown one", "\x02\x03\x01\x02\x03", usual)
	for _, c := range []struct {
		b   string
		err api.Errno
	}{
		{"\x04\x01\x43", api.ErrParamsValue},
		{"\x04\x02\x05\x06", api.ErrParamsValue},
		{"\x08\x01\x21", api.ErrParamsValue},
		{"\x02\x00\x02\x00", api.ErrParamsTwice},
		{"\x08\x01\x05\x40\x08", api.ErrParamsTwice},
		{"\x08\x01\x05\x40\x08\x01\x05", api.ErrParamsTwice},
		{"\x04", api.ErrParamsShort},
		{"\x04\x02\x43", api.ErrParamsShort},
		{"\x02\x00\x02", api.ErrParamsTwice},
	} {
		mustRefuse(t, "an example", c.b, c.err)
	}
}

// A default that is told is as good as one that isn't.
func TestDecodeReadsDefaults(t *testing.T) {
	b := ""
	for _, f := range fields() {
		one := told(uint64(f.number), shortest(uint64(f.untold)))
		mustRead(t, f.name+" at its default", one, usual)
		b += one
	}
	mustRead(t, "all at their defaults", b, usual)
	mustRead(t, "both at 0", "\x0b\x01\x00\x0a\x01\x00", api.Params{})
}

func TestDecodeTakesEveryWidth(t *testing.T) {
	for _, f := range fields() {
		for _, v := range []int64{0, 1, 5, f.untold, f.most - 1, f.most} {
			for _, a := range widths {
				for _, b := range widths {
					for _, c := range widths {
						value := sizedAs(uint64(v), c)
						if value == "" {
							continue
						}
						text := sizedAs(uint64(f.number), a) + sizedAs(uint64(c), b) + value
						mustRead(t, f.name, text, with(f, v))
						mustRead(t, f.name+" and one behind", text+"\x02\x00", with(f, v))
					}
				}
			}
		}
	}
}

func TestDecodeRefusesValues(t *testing.T) {
	for _, f := range fields() {
		number := uint64(f.number)
		for _, v := range []uint64{uint64(f.most) + 1, uint64(f.most) + 2, 1 << 40, 1<<52 + 5, 1 << 61, api.MaxNumber} {
			for _, size := range widths {
				if value := sizedAs(v, size); value != "" {
					mustRefuse(t, f.name+" above", told(number, value), api.ErrParamsValue)
				}
			}
		}
		mustRefuse(t, f.name+" without bytes", told(number, ""), api.ErrParamsValue)
		mustRefuse(t, f.name+" without bytes, with one behind", told(number, "")+"\x05\x01\x05", api.ErrParamsValue)
		for _, size := range widths {
			value := sizedAs(5, size)
			for n := range size {
				mustRefuse(t, f.name+" with fewer bytes than its number has", told(number, value[:n])+value[n:]+"\x02\x00", api.ErrParamsValue)
			}
			for n := 1; n <= 9; n++ {
				mustRefuse(t, f.name+" with more bytes than its number has", told(number, value+strings.Repeat("\x00", n)), api.ErrParamsValue)
			}
			mustRefuse(t, f.name+" with two numbers", told(number, value+value), api.ErrParamsValue)
		}
		mustRefuse(t, f.name+" with 70 bytes", told(number, strings.Repeat("\x05", 70)), api.ErrParamsValue)
	}
}

func TestDecodePassesOverUnknown(t *testing.T) {
	data := usual
	data.Data = 1000
	numbers := []uint64{0, 2, 3, 12, 13, 14, 62, 63, 64, 65, 68, 257, 260, 266, 16383, 16384, 65536 + 4, 1<<30 - 1, 1 << 30, 1<<32 + 4, 1<<32 + 8, api.MaxNumber}
	for _, number := range numbers {
		for n := range 80 {
			for _, fill := range []string{"\x00", "\x04", "\x40", "\xc0", "\xff"} {
				b := told(number, strings.Repeat(fill, n))
				mustRead(t, "an unknown one", b, usual)
				mustRead(t, "one behind an unknown one", b+"\x04\x02\x43\xe8", data)
				mustRead(t, "an unknown one behind", "\x04\x02\x43\xe8"+b, data)
			}
		}
	}
	mustRead(t, "a long unknown one", told(2, strings.Repeat("\x04\x01\x05", 30000)), usual)
	for _, number := range numbers {
		for _, a := range widths {
			for _, c := range widths {
				if head := sizedAs(number, a); head != "" {
					mustRead(t, "an unknown one in other widths", head+sizedAs(3, c)+"\xff\xff\xff\x04\x02\x43\xe8", data)
				}
			}
		}
	}
}

// All unknown ones at once, and all of the table between them.
func TestDecodeManyUnknown(t *testing.T) {
	var b strings.Builder
	want := usual
	for number := range uint64(20000) {
		if i := slices.IndexFunc(fields(), func(f field) bool { return uint64(f.number) == number }); i >= 0 {
			b.WriteString(fields()[i].atMost)
			fields()[i].set(&want, fields()[i].most)
			continue
		}
		b.WriteString(told(number, strings.Repeat("\xff", int(number%4))))
	}
	mustRead(t, "many", b.String(), want)
	for _, number := range []uint64{0, 1, 2, 4, 11, 12, 64, 16383, 16384, 19999} {
		mustRefuse(t, "one of many again", b.String()+shortest(number), api.ErrParamsTwice)
	}
	mustRead(t, "one more", b.String()+told(20000, ""), want)
}

func TestDecodeRefusesTwice(t *testing.T) {
	for _, number := range []uint64{0, 1, 2, 3, 4, 5, 6, 7, 8, 9, 10, 11, 12, 63, 64, 16383, 16384, 1<<30 - 1, 1 << 30, api.MaxNumber} {
		for _, a := range widths {
			for _, c := range widths {
				first, second := sizedAs(number, a), sizedAs(number, c)
				if first == "" || second == "" {
					continue
				}
				for _, between := range []string{"", "\x0d\x00", "\x0e\x02\xff\xff\x0f\x01\x05"} {
					b := first + "\x01\x05" + between + second
					mustRefuse(t, "twice, and nothing behind", b, api.ErrParamsTwice)
					mustRefuse(t, "twice", b+"\x01\x05", api.ErrParamsTwice)
					mustRefuse(t, "twice with another value", b+"\x01\x06", api.ErrParamsTwice)
					mustRefuse(t, "twice, and a length that is cut off", b+"\x40", api.ErrParamsTwice)
					mustRefuse(t, "twice, and a value that is cut off", b+"\x02\x40", api.ErrParamsTwice)
					mustRefuse(t, "twice, and a value that may not be", b+"\x01\x40", api.ErrParamsTwice)
					mustRefuse(t, "twice, and one that is cut off", b+"\x01\x05\x40", api.ErrParamsTwice)
				}
			}
		}
	}
}

// Numbers whose lowest bytes are the same are not the same.
func TestDecodeTellsNumbersApart(t *testing.T) {
	b := "\x04\x01\x05"
	for _, number := range []uint64{4 + 1<<6, 4 + 1<<8, 4 + 1<<14, 4 + 1<<16, 4 + 1<<30, 4 + 1<<31, 4 + 1<<32, 4 + 1<<61} {
		b += told(number, "\x01\x40")
	}
	p := usual
	p.Data = 5
	mustRead(t, "numbers that end in 4", b, p)
}

func TestDecodeRefusesShort(t *testing.T) {
	for _, ahead := range []string{"", "\x0d\x00", "\x0d\x03\x01\x02\x03", "\x09\x01\x05"} {
		for _, number := range []uint64{1, 4, 8, 10, 11, 2, 63, 64, 20000, 1 << 40} {
			for _, size := range widths {
				head := sizedAs(number, size)
				if head == "" {
					continue
				}
				for n := 1; n < size; n++ {
					mustRefuse(t, "within a number", ahead+head[:n], api.ErrParamsShort)
				}
				mustRefuse(t, "behind a number", ahead+head, api.ErrParamsShort)
				for _, wide := range widths {
					length := sizedAs(4, wide)
					for n := 1; n < wide; n++ {
						mustRefuse(t, "within a length", ahead+head+length[:n], api.ErrParamsShort)
					}
					for n := range 4 {
						mustRefuse(t, "within a value", ahead+head+length+"\x80\x00\x00\x05"[:n], api.ErrParamsShort)
					}
				}
			}
		}
	}
}

// A length may be far greater than what is there, or than a place can be.
func TestDecodeRefusesGreatLengths(t *testing.T) {
	for _, number := range []uint64{1, 2, 4, 11, 1 << 40} {
		for _, n := range []uint64{5, 63, 64, 16383, 1 << 20, 1 << 30, 1<<31 - 1, 1 << 31, 1<<32 - 1, 1 << 32, 1<<32 + 1, 1 << 61, api.MaxNumber - 3, api.MaxNumber - 1, api.MaxNumber} {
			for _, behind := range []string{"", "\x05", "\x01\x05\x02\x00"} {
				mustRefuse(t, "a length beyond the end", shortest(number)+shortest(n)+behind, api.ErrParamsShort)
			}
		}
	}
}

// Of several things that are wrong the first one from the left is told; a value is looked at when all its bytes are there.
func TestDecodeTellsTheFirst(t *testing.T) {
	for _, c := range []struct {
		what, b string
		err     api.Errno
	}{
		{"a value, then twice", "\x08\x01\x21\x08\x01\x05", api.ErrParamsValue},
		{"twice, then a value", "\x08\x01\x05\x08\x01\x21", api.ErrParamsTwice},
		{"a value, then short", "\x08\x01\x21\x04", api.ErrParamsValue},
		{"short behind what is right", "\x08\x01\x20\x04", api.ErrParamsShort},
		{"twice, then short", "\x08\x01\x05\x08\x02\x05", api.ErrParamsTwice},
		{"twice, then a value of another one", "\x02\x00\x02\x00\x08\x01\x21", api.ErrParamsTwice},
		{"a value, then twice an unknown one", "\x02\x00\x08\x01\x21\x02\x00", api.ErrParamsValue},
		{"a second number that is cut off is none", "\x40\x08\x01\x05\x40", api.ErrParamsShort},
		{"a value that can't be, and is cut off", "\x04\x02\x05", api.ErrParamsShort},
		{"a value with a length that can't be, and is cut off", "\x04\x03\x80\x00", api.ErrParamsShort},
		{"a value above, and cut off", "\x08\x02\x7f", api.ErrParamsShort},
		{"an unknown one that is cut off", "\x02\x03\x01\x02", api.ErrParamsShort},
		{"a value of no bytes at the end", "\x04\x00", api.ErrParamsValue},
		{"a value of no bytes, then twice", "\x04\x00\x04\x00", api.ErrParamsValue},
		{"an unknown one of no bytes, then a value of none", "\x02\x00\x04\x00", api.ErrParamsValue},
		{"two values that may not be", "\x08\x01\x21\x09\x01\x21", api.ErrParamsValue},
		{"right ones, then a value", "\x01\x01\x05\x04\x01\x05\x0b\x01\x05\x0a\x01\x15", api.ErrParamsValue},
		{"a number within a value is not read", "\x02\x02\x08\x01\x08\x01\x05\x02", api.ErrParamsTwice},
	} {
		mustRefuse(t, c.what, c.b, c.err)
	}
	p := usual
	p.Bidi = 5
	mustRead(t, "the bytes of an unknown one are no parameters", "\x02\x04\x08\x01\x21\x08\x08\x01\x05", p)
}

// Room behind the bytes is not looked at.
func TestDecodeEndsAtTheEnd(t *testing.T) {
	for _, c := range rows() {
		if len(c.b) == 0 {
			continue
		}
		b := append([]byte(c.b), "\x0d\x01\x05\x0d"...)
		if p, err := Decode(b[:len(c.b)]); p != c.p || err != api.OK {
			t.Errorf("P6.4: Decode(%x) = %+v, %d, want %+v", c.b, p, err, c.p)
		}
		if p, err := Decode(b[:len(c.b)-1]); p != (api.Params{}) || err != api.ErrParamsShort {
			t.Errorf("P6.4: Decode(%x) = %+v, %d, want ErrParamsShort", c.b[:len(c.b)-1], p, err)
		}
	}
}
