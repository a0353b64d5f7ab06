package credit

import "portage/api"

// Out is what the other end lets us send.
type Out struct {
	limit int64
	used  int64 // never above the limit
	told  int64 // the limit of which Blocked told; -1: none
}

// NewOut gives one with a limit (P17.1).
func NewOut(limit int64) (*Out, api.Errno) {
	if !may(limit) {
		return nil, api.ErrArg
	}
	return &Out{limit: limit, told: -1}, api.OK
}

// Room tells how much may still be sent (P17.2).
func (o *Out) Room() int64 {
	return o.limit - o.used
}

// Use says that so much was sent (P17.2).
func (o *Out) Use(n int64) api.Errno {
	if n < 0 {
		return api.ErrArg
	}
	if n > o.Room() {
		return api.ErrCreditLimit
	}
	o.used += n
	return api.OK
}

// Raise raises the limit; true: it rose (P17.3).
func (o *Out) Raise(limit int64) bool {
	limit = min(limit, api.MaxNumber)
	if limit <= o.limit {
		return false
	}
	o.limit = limit
	return true
}

// Wants tells whether Blocked would tell something (P17.4).
func (o *Out) Wants() bool {
	return o.Room() == 0 && o.limit != o.told
}

// Blocked tells, once a limit, that it has been come to (P17.4).
func (o *Out) Blocked() (int64, bool) {
	if !o.Wants() {
		return 0, false
	}
	o.told = o.limit
	return o.limit, true
}

// Again says that a limit of which Blocked told is to be told again (P17.4).
func (o *Out) Again(limit int64) {
	if limit == o.told {
		o.told = -1
	}
}

// View tells what there is (P17.5).
func (o *Out) View() api.OutView {
	return api.OutView{Limit: o.limit, Used: o.used, Told: o.told}
}
