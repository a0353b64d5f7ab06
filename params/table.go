package params

import (
	"slices"

	"portage/api"
	"portage/num"
)

const (
	count        = 9
	mostAckExp   = 20
	mostAckDelay = 16383000
)

// A row is what is known of a parameter: its number, its greatest value, and what holds if it isn't told.
type row struct {
	number       uint64
	most, untold int64
}

// table has a row for each parameter, by rising number: valuesOf and paramsOf go by the same order.
var table = [count]row{
	{1, api.MaxSpan, 0},
	{4, api.MaxWindow, 0},
	{5, api.MaxWindow, 0},
	{6, api.MaxWindow, 0},
	{7, api.MaxWindow, 0},
	{8, api.MaxStreams, 0},
	{9, api.MaxStreams, 0},
	{10, mostAckExp, 3},
	{11, mostAckDelay, 25000},
}

// values are those of all parameters, in the table's order.
type values [count]int64

func valuesOf(p api.Params) values {
	return values{p.Idle, p.Data, p.StreamOwn, p.StreamHis, p.StreamUni, p.Bidi, p.Uni, int64(p.AckExp), p.AckDelay}
}

func paramsOf(l values) api.Params {
	return api.Params{
		Idle: l[0], Data: l[1], StreamOwn: l[2], StreamHis: l[3], StreamUni: l[4], Bidi: l[5], Uni: l[6],
		AckExp: int(l[7]), AckDelay: l[8],
	}
}

func defaults() values {
	var l values
	for i, r := range table {
		l[i] = r.untold
	}
	return l
}

// place is where a number stands in the table; false, if it doesn't.
func place(number uint64) (int, bool) {
	for i, r := range table {
		if r.number == number {
			return i, true
		}
	}
	return 0, false
}

// bytesOf are a parameter's bytes. No call of num can answer an error: a value that may be is a number.
func bytesOf(number uint64, v int64) []byte {
	head, _ := num.Put(number)
	value, _ := num.Put(uint64(v))
	size, _ := num.Put(uint64(len(value)))
	return slices.Concat(head, size, value)
}
