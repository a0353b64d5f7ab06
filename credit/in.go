package credit

import "portage/api"

// In is what we let the other end send.
type In struct {
	window   int64
	limit    int64 // the one told last
	taken    int64 // never above the limit
	consumed int64 // never above what was taken
	again    bool  // the limit is to be told again
}

// NewIn gives one with a window, which is its first limit (P17.6).
func NewIn(window int64) (*In, api.Errno) {
	if !may(window) {
		return nil, api.ErrArg
	}
	return &In{window: window, limit: window}, api.OK
}

// Take says that so much has come (P17.7).
func (i *In) Take(n int64) api.Errno {
	if n < 0 {
		return api.ErrArg
	}
	// No sum is asked for, here and in Consume: it might leave 64 bits.
	if n > i.limit-i.taken {
		return api.ErrCreditLimit
	}
	i.taken += n
	return api.OK
}

// Consume says that so much of it is done with (P17.8).
func (i *In) Consume(n int64) api.Errno {
	if n < 0 || n > i.taken-i.consumed {
		return api.ErrArg
	}
	i.consumed += n
	return api.OK
}

// next is the next limit (P17.9). Two numbers together are below 2^63.
func (i *In) next() int64 {
	return min(i.consumed+i.window, api.MaxNumber)
}

// Wants tells whether Update would tell something (P17.9).
func (i *In) Wants() bool {
	rise, half := i.next()-i.limit, i.window-i.window/2
	// Half a window of 0 is 0, and no rise isn't worth telling.
	return i.again || rise > 0 && rise >= half
}

// Update tells a new limit, if it is worth telling (P17.9).
func (i *In) Update() (int64, bool) {
	if !i.Wants() {
		return 0, false
	}
	i.limit, i.again = i.next(), false
	return i.limit, true
}

// Again says that a limit of which Update told is to be told again (P17.10).
func (i *In) Again(limit int64) {
	// What Update tells first is above the window: no later limit is the first one.
	if limit == i.limit && limit != i.window {
		i.again = true
	}
}

// View tells what there is (P17.11).
func (i *In) View() api.InView {
	return api.InView{Limit: i.limit, Taken: i.taken, Consumed: i.consumed, Window: i.window}
}
