package params

import (
	"portage/api"
	"portage/num"
)

// A reader goes through bytes, one parameter behind the other.
type reader struct {
	b    []byte
	at   int
	came map[uint64]struct{} // the numbers that were read, those that aren't in the table too
}

func newReader(b []byte) *reader {
	return &reader{b: b, came: map[uint64]struct{}{}}
}

func (r *reader) done() bool {
	return r.at == len(r.b)
}

// parameter reads one, and sets its value, if the table has it.
func (r *reader) parameter(l *values) api.Errno {
	number, err := r.number()
	if err != api.OK {
		return err
	}
	value, err := r.value()
	if err != api.OK {
		return err
	}
	i, known := place(number)
	if !known {
		return api.OK
	}
	v, end, err := num.Get(value, 0)
	if err != api.OK || end != len(value) || v > uint64(table[i].most) {
		return api.ErrParamsValue
	}
	l[i] = int64(v)
	return api.OK
}

// number reads a parameter's number, which may not have come yet.
func (r *reader) number() (uint64, api.Errno) {
	number, err := r.sized()
	if err != api.OK {
		return 0, err
	}
	if _, twice := r.came[number]; twice {
		return 0, api.ErrParamsTwice
	}
	r.came[number] = struct{}{}
	return number, api.OK
}

// value reads how many bytes a value has, and tells these as they stand in what is read.
func (r *reader) value() ([]byte, api.Errno) {
	n, err := r.sized()
	if err != api.OK {
		return nil, err
	}
	if n > uint64(len(r.b)-r.at) {
		return nil, api.ErrParamsShort
	}
	from := r.at
	r.at += int(n)
	return r.b[from:r.at], api.OK
}

// sized reads a sized number: num's one error, at a place that may be, is that the bytes end.
func (r *reader) sized() (uint64, api.Errno) {
	v, end, err := num.Get(r.b, r.at)
	if err != api.OK {
		return 0, api.ErrParamsShort
	}
	r.at = end
	return v, api.OK
}
