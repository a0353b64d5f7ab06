package road

import (
	"cmp"
	"slices"

	"portage/api"
)

// gram is a datagram that is under way. Its bytes are a text, which nobody can change: those that are doubled share it.
type gram struct {
	id, to int
	at     int64
	text   string
	mark   int
}

// flight tells it, with bytes of the answer's own.
func (g gram) flight() api.Flight {
	return api.Flight{ID: g.id, To: g.to, At: g.at, Data: []byte(g.text), Mark: g.mark}
}

// inOrder sorts them by time, then by number: of one time the wheel tells them by places, which are given again.
func inOrder(l []gram) []gram {
	slices.SortFunc(l, func(a, b gram) int {
		return cmp.Or(cmp.Compare(a.at, b.at), cmp.Compare(a.id, b.id))
	})
	return l
}

// list is those that are under way, in order.
func (r *Road) list() []gram {
	l := make([]gram, 0, len(r.places))
	for place := range r.arrivals.All() {
		l = append(l, r.lying[place])
	}
	return inOrder(l)
}

// pass moves the clock, which never goes back.
func (r *Road) pass(now int64) {
	r.now = max(r.now, min(now, api.MaxTime))
}

// lay lays one more, as the next number.
func (r *Road) lay(g gram) (int, api.Errno) {
	if len(r.places) == api.MaxFlight {
		return 0, api.ErrFull
	}
	g.id = r.next
	r.next++
	place := r.room()
	r.places[g.id] = place
	r.lying[place] = g
	r.arm(place)
	return g.id, api.OK
}

// room is a place in which nothing lies.
func (r *Road) room() int {
	if last := len(r.free) - 1; last >= 0 {
		place := r.free[last]
		r.free = r.free[:last]
		return place
	}
	r.lying = append(r.lying, gram{})
	return len(r.lying) - 1
}

// arm tells the wheel when what lies there arrives.
func (r *Road) arm(place int) {
	// No error can come: there are as many places as timers, and a clock and a span together are far below Never.
	r.arrivals.Arm(place, r.lying[place].at)
}

// clear takes out what lies there: its bytes are kept no longer.
func (r *Road) clear(place int) gram {
	g := r.lying[place]
	r.lying[place] = gram{}
	r.free = append(r.free, place)
	delete(r.places, g.id)
	return g
}

func isEnd(to int) bool { return to == api.Client || to == api.Server }

func isMark(mark int) bool {
	return mark == api.Unmarked || mark == api.Capable || mark == api.Marked
}

// isArrival tells whether one may be put off to that time.
func isArrival(at int64) bool { return at >= 0 && at < api.Never }
