package seen

import "portage/api"

// maxExp is the greatest exponent by which a delay is told.
const maxExp = 20

// goOn sets the clock to a time that was handed in.
func (s *Seen) goOn(now int64) {
	s.clock = min(max(now, s.clock), api.MaxTime)
}

// count counts a mark that tells something of the road.
func (s *Seen) count(mark int) {
	if mark == api.Capable {
		s.counts[0]++
	}
	if mark == api.Marked {
		s.counts[2]++
	}
}

// keep puts a number in. The set has no bound of its own, since the run that goes tells where the floor is.
func (s *Seen) keep(number int64) {
	s.kept.Add(number, number)
	if s.kept.Len() > api.MaxRuns {
		s.raise(s.kept.Runs()[0].Hi)
	}
}

// raise lets go what is kept up to a number, which is the floor then, if it wasn't above it already.
func (s *Seen) raise(floor int64) {
	s.kept.Cut(0, floor)
	s.floor = max(s.floor, floor)
}

// rest says that all there is has been told.
func (s *Seen) rest() {
	s.untold, s.deadline = false, api.Never
}
