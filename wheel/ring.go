package wheel

import (
	"iter"
	"math/bits"
)

const (
	digitBits = 6  // a time is read in digits to the base 64, the lowest of them digit 0
	digits    = 11 // of a deadline's time, which is below 2^62
)

// A ring is one of the wheels: it has a slot for each value of a digit.
type ring struct {
	full  uint64 // which slots have something, slot 0 in the lowest bit
	slots [1 << digitBits]*node
}

// digit tells a time's i-th digit.
func digit(t int64, i int) int {
	return int(t >> (digitBits * i) & (1<<digitBits - 1))
}

// parting tells the highest digit in which two times differ; 0, if they are the same.
func parting(a, b int64) int {
	return max(bits.Len64(uint64(a^b))-1, 0) / digitBits
}

// place tells the ring and the slot of a time. That is the highest digit in which it differs from the clock, and its value:
// so a slot that comes ahead of another one, on its ring or on a faster one, has what comes ahead in time.
func (w *Wheel) place(at int64) (*ring, int) {
	// What the clock has passed lies with what is due at the clock itself: the next Advance takes both.
	at = max(at, w.clock)
	i := parting(at, w.clock)
	return &w.rings[i], digit(at, i)
}

// put lays a node, which lies in no list, into its slot.
func (w *Wheel) put(n *node) {
	r, i := w.place(n.at)
	n.before, n.behind = nil, r.slots[i]
	if n.behind != nil {
		n.behind.before = n
	}
	r.slots[i] = n
	r.full |= 1 << i
}

// cut takes a node out of its slot.
func (w *Wheel) cut(n *node) {
	r, i := w.place(n.at)
	if n.behind != nil {
		n.behind.before = n.before
	}
	if n.before != nil {
		n.before.behind = n.behind
		return
	}
	r.slots[i] = n.behind
	if n.behind == nil {
		r.full &^= 1 << i
	}
}

// turn sets the clock to a time that isn't below it, and takes out all nodes of the slots that the clock passes or comes to
// stand in, each ahead of the next. Of the last slot some may lie beyond the clock: they have no place till they are put again.
func (w *Wheel) turn(to int64) []*node {
	top := parting(w.clock, to)
	var l []*node
	for i := range top {
		l = append(l, w.rings[i].empty(1<<digitBits-1)...)
	}
	l = append(l, w.rings[top].empty(digit(to, top))...)
	w.clock = to
	return l
}

// empty takes all nodes out of the slots up to the last that is named: each ahead of the next.
func (r *ring) empty(last int) []*node {
	var l []*node
	for i := bits.TrailingZeros64(r.full); i <= last; i = bits.TrailingZeros64(r.full) {
		l = append(l, inOrder(r.slots[i])...)
		r.slots[i] = nil
		r.full &^= 1 << i
	}
	return l
}

// slots gives the lists of the slots that have something, the earliest first: what lies in one is ahead of what lies in the next.
func (w *Wheel) slots() iter.Seq[*node] {
	return func(yield func(*node) bool) {
		for i := range w.rings {
			r := &w.rings[i]
			for left := r.full; left != 0; left &= left - 1 {
				if !yield(r.slots[bits.TrailingZeros64(left)]) {
					return
				}
			}
		}
	}
}

// list tells the deadlines that are held, each ahead of the next.
func (w *Wheel) list() []deadline {
	l := make([]deadline, 0, len(w.held))
	for first := range w.slots() {
		for _, n := range inOrder(first) {
			l = append(l, n.deadline)
		}
	}
	return l
}
