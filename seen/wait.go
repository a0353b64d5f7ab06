package seen

import "portage/api"

// An arrival is what counts of a packet that elicits, when it is asked whether it must be acknowledged at once.
type arrival struct {
	space   int
	number  int64
	largest int64 // ahead of it
	mark    int
	waits   bool // another one does already
}

// reasons is why a packet is acknowledged at once: one of these is enough (P8.3).
func reasons() []func(arrival) bool {
	return []func(arrival) bool{
		func(a arrival) bool { return a.space != api.App },
		func(a arrival) bool { return a.waits },
		// There is no hole below the first number that comes, wherever it lies.
		func(a arrival) bool { return a.number < a.largest || a.number > a.largest+1 && a.largest != -1 },
		func(a arrival) bool { return a.mark == api.Marked },
	}
}

// hurries tells whether it must be acknowledged at once.
func (a arrival) hurries() bool {
	for _, holds := range reasons() {
		if holds(a) {
			return true
		}
	}
	return false
}

// wait sets the deadline by a packet that elicits. One that is earlier stays.
func (s *Seen) wait(a arrival) {
	at := s.clock
	if !a.hurries() {
		at += s.delay
	}
	s.deadline = min(s.deadline, at)
}
